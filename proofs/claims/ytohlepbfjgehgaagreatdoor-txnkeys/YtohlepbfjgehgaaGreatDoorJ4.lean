/-
  What is proved here: what the texts below say, one behind the other.
-/
import Derived.Test.YtohlepbfjgehgaaGreatDoorLSPuts
import Derived.Test.YtohlepbfjgehgaaGreatDoorStep
import Derived.Test.YtohlepbfjgehgaaGreatDoorTurn
import Derived.Test.YtohlepbfjgehgaaGreatDoorMem
import Derived.Lib.ConvBytes
import Derived.WalkLawsBesides
import Derived.Maps.Ext
import Derived.Laws.CopyRow
import Derived.Laws.CopyOwn
import Derived.Lib.AppendZerosOnto
import Derived.Lib.Overlaps
import Derived.Deep.RegionLaw
import Derived.BigQuiet
/-
  What is proved here: pieces in memory; how keys are ordered; append of pieces; clones and equality of pieces; over this program.
-/
namespace Go.Proofs.YtohlepbfjgehgaaGreatDoor
open Go.RowKit Go.Extern.Stop Go.Stop Go.Extern

/-- a piece: where it begins, its shard, its epoch -/
abbrev Pc := List UInt8 × Int × Int
def pcCells (e : Pc) : List Value := [.string ⟨e.1.toArray⟩, .int .i64 e.2.1, .int .i64 e.2.2]
def pcV (e : Pc) : Value := .agg #[.string ⟨e.1.toArray⟩, .int .i64 e.2.1, .int .i64 e.2.2]
def pcsCells (l : List Pc) : List Value := l.flatMap pcCells
theorem pcsCells_len (l : List Pc) : (pcsCells l).length = l.length * 3 := by
  induction l with
  | nil => rfl
  | cons x r ih => simp only [pcsCells, List.flatMap_cons, List.length_append] at ih ⊢; rw [ih]; simp [pcCells]; omega
theorem pcsCells_at {l : List Pc} {k : Nat} {e : Pc} (h : l[k]? = some e) : (pcsCells l)[k * 3]? = some (.string ⟨e.1.toArray⟩) ∧ (pcsCells l)[k * 3 + 1]? = some (.int .i64 e.2.1) ∧ (pcsCells l)[k * 3 + 2]? = some (.int .i64 e.2.2) := by
  induction l generalizing k with
  | nil => simp at h
  | cons x r ih =>
    cases k with
    | zero => simp at h; subst h; exact ⟨rfl, rfl, rfl⟩
    | succ k =>
      have := ih (k := k) (by simpa using h)
      have e1 : ∀ j, (pcsCells (x :: r))[(k + 1) * 3 + j]? = (pcsCells r)[k * 3 + j]? := fun j => by
        show (pcCells x ++ pcsCells r)[(k + 1) * 3 + j]? = _
        rw [List.getElem?_append_right (by simp [pcCells]; omega)]
        congr 1; simp [pcCells]; omega
      exact ⟨by rw [show (k + 1) * 3 = (k + 1) * 3 + 0 by omega, e1]; exact this.1, by rw [e1]; exact this.2.1, by rw [e1]; exact this.2.2⟩
theorem pcsCells_append (l r : List Pc) : pcsCells (l ++ r) = pcsCells l ++ pcsCells r := List.flatMap_append ..
theorem pcsCells_one (l : List Pc) : ∀ u ∈ pcsCells l, u.oneCell' = true := by
  intro u hu
  obtain ⟨x, _, hx⟩ := List.mem_flatMap.1 hu
  simp [pcCells] at hx
  rcases hx with rfl | rfl | rfl <;> rfl
/-- a slice of entries -/
def PcsIn (w : World) (A : Nat → Prop) (v : Value) (l : List Pc) : Prop := RowIn w A v l.length (pcsCells l)
theorem PcsIn.form {w : World} {A : Nat → Prop} {v : Value} {l : List Pc} (h : PcsIn w A v l) : ∃ a cap, v = .slice a l.length cap := by
  obtain ⟨a, cap, h1, _⟩ := h
  exact ⟨a, cap, h1⟩
theorem PcsIn.at {w : World} {A : Nat → Prop} {a : Option Addr} {n cap : Nat} {l : List Pc} (h : PcsIn w A (.slice a n cap) l) {k : Nat} {e : Pc} (hs : l[k]? = some e) :
    ∃ b off, a = some ⟨b, off, none⟩ ∧ A b ∧ w.cell? ⟨b, off + k * 3, none⟩ = some (.string ⟨e.1.toArray⟩) ∧ w.cell? ⟨b, off + k * 3 + 1, none⟩ = some (.int .i64 e.2.1) ∧ w.cell? ⟨b, off + k * 3 + 2, none⟩ = some (.int .i64 e.2.2) := by
  obtain ⟨a', cap', e1, _, h2⟩ := h
  simp only [Value.slice.injEq] at e1
  obtain ⟨rfl, _, rfl⟩ := e1
  obtain ⟨c0, c1, c2⟩ := pcsCells_at hs
  obtain ⟨b, off, r1, r2, r3⟩ := h2 _ _ c0
  obtain ⟨b', off', s1, s2, s3⟩ := h2 _ _ c1
  obtain ⟨b'', off'', t1, t2, t3⟩ := h2 _ _ c2
  rw [r1] at s1 t1
  cases s1; cases t1
  exact ⟨b, off, r1, r2, r3, by rw [Nat.add_assoc]; exact s3, by rw [Nat.add_assoc]; exact t3⟩
theorem infoPc : (Tryz.prog.info? 62).map (fun i => (i.zero, i.size, i.bytes)) = some (some (.agg #[.string ⟨#[]⟩, .int .i64 0, .int .i64 0]), 3, 32) := by kernel_rfl
set_option maxRecDepth 100000 in
set_option maxHeartbeats 8000000 in
theorem cloneP_any (w : World) (A : Nat → Prop) (v : Value) (l : List Pc) (hv : PcsIn w A v l) (hl : l.length ≤ 100000) :
    Calls Tryz.prog 60 #[v] w fun e w' => ∃ z, e = .returned z ∧ w'.ownsRow w.heap.size 62 3 z l.length (pcsCells l) ∧ Below w.heap.size w w' := by
  have HV := hideIt hv
  obtain ⟨i0, hi, hi2⟩ := Option.map_eq_some_iff.1 infoPc
  obtain ⟨hz0, hz1, hz2⟩ : i0.zero = some (.agg #[.string ⟨#[]⟩, .int .i64 0, .int .i64 0]) ∧ i0.size = 3 ∧ i0.bytes = 32 := by
    simp only [Prod.mk.injEq] at hi2; exact hi2
  have HI := hideIt (And.intro hi (And.intro hz0 (And.intro hz1 hz2)))
  clear hi2 hi hz0 hz1 hz2
  have hen := fun (w : World) (a : Option Addr) (n c : Nat) => Lib.run_eql_slice_nil (P := Tryz.prog) w 52 62 a n c 0 0 Tryz.underlying52
  have hv2 := hv
  obtain ⟨a, cap, rfl, hnil, _⟩ := hv2
  clear hv
  cases a with
  | none =>
    obtain ⟨rfl, hl0, _⟩ := hnil rfl
    have hl1 : l = [] := List.eq_nil_of_length_eq_zero hl0
    subst hl1
    clear hnil
    go_enter Tryz.func60, Tryz.ntmps60
    go_wp2
    go_ret
    exact ⟨_, rfl, World.ownsRow_nil _ _ _ _, Below.refl _ _⟩
  | some ad =>
    clear hnil
    have hb0 : Below w.heap.size w (w.alloc (.cells #[] 62)) := (Below.refl _ _).alloc (Nat.le_refl _) _
    have HO : Hid ((w.alloc (.cells #[] 62)).ownsRow w.heap.size 62 3 (.slice (some ⟨w.heap.size, 0, none⟩) 0 0) 0 []) := hideIt ⟨rfl, Or.inr ⟨w.heap.size, 0, #[], rfl, Nat.le_refl _, heap_alloc_new w _, Nat.le_refl _, Nat.zero_le _, rfl, rfl⟩⟩
    have HB0 := hideIt hb0
    have HV0 : Hid (PcsIn (w.alloc (.cells #[] 62)) (· < w.heap.size) (.slice (some ad) l.length cap) l) := hideIt (RowIn.kept (RowIn.mono (A' := (· < w.heap.size)) HV.out (fun _ _ h => h)) (Kept.of_all hb0))
    clear hb0
    go_enter Tryz.func60, Tryz.ntmps60
    go_wp2_with (at_builtin; refine wpList_append_own_at _ rfl _ _ 52 rfl w.heap.size 62 i0 (.agg #[.string ⟨#[]⟩, .int .i64 0, .int .i64 0]) 3 32 Tryz.underlying52 HI.out.1 HI.out.2.1 HI.out.2.2.1 HI.out.2.2.2 rfl (by decide) _ _ _ rfl HO.out ad l.length cap (pcsCells l) rfl ?k0 ?k1 ?k2 ?k3 ?k4 ?k5 ?_)
    case k0 => exact pcsCells_len l
    case k1 => exact RowIn.cells HV0.out
    case k2 => exact pcsCells_one l
    case k3 => unfold maxLen; omega
    case k4 => omega
    case k5 => simp
    intro z w2 h1 h2 _ h3
    have HZ := hideIt (And.intro h1 (And.intro h2 h3))
    obtain ⟨az, capz, rfl⟩ := own_form h1
    clear h1 h2 h3
    go_wp2
    go_ret
    obtain ⟨h1, h2, h3⟩ := HZ.out
    refine ⟨_, rfl, by simpa using h1, ?_⟩
    exact HB0.out.grown h2 (by simp) (fun k hk => by cases hk; exact Nat.le_refl _)
theorem pc_ext (x y : Pc) : x = y ↔ x.1 = y.1 ∧ x.2.1 = y.2.1 ∧ x.2.2 = y.2.2 := by
  obtain ⟨a, b, c⟩ := x
  obtain ⟨a', b', c'⟩ := y
  simp
theorem eql_pc (x y : Pc) (w : World) : (Op.equalIn 10000 62 (.agg #[.string ⟨x.1.toArray⟩, .int .i64 x.2.1, .int .i64 x.2.2]) (.agg #[.string ⟨y.1.toArray⟩, .int .i64 y.2.1, .int .i64 y.2.2])).run Tryz.prog w = .ok (decide (x = y)) w := by
  have u3 := Tryz.underlying2
  have a3 := Tryz.isAgg2
  have z3 := Tryz.sizeOf2
  have u4 := Tryz.underlying3
  have a4 := Tryz.isAgg3
  have z4 := Tryz.sizeOf3
  have u9 := Tryz.underlying9
  have a9 := Tryz.isAgg9
  have z9 := Tryz.sizeOf9
  have hS : Tryz.prog.underlying 62 = some (.struct (Tryz.prog.fieldsOf 62)) := by kernel_rfl
  have hp : Tryz.prog.stoodInHeld 62 = false := by kernel_rfl
  rw [show (10000 : Nat) = 9999 + 1 from rfl, run_equalIn_agg w 9999 62 _ _ hS hp]
  simp only [Program.fieldsOf, Tryz.underlying62]
  go_simp
  have e := pc_ext x y
  by_cases h1 : x.1 = y.1 <;> by_cases h2 : x.2.1 = y.2.1 <;> by_cases h3 : x.2.2 = y.2.2 <;> simp [h1, h2, h3, e]
theorem neq_pc (x y : Pc) (w : World) : (binOp .neq 62 (.agg #[.string ⟨x.1.toArray⟩, .int .i64 x.2.1, .int .i64 x.2.2]) (.agg #[.string ⟨y.1.toArray⟩, .int .i64 y.2.1, .int .i64 y.2.2])).run Tryz.prog w = .ok (.bool (!decide (x = y))) w := by
  rw [run_neq_struct, eql_pc]; simp [Result.andThen]
theorem eq_pc (x y : Pc) (w : World) : (binOp .eql 62 (.agg #[.string ⟨x.1.toArray⟩, .int .i64 x.2.1, .int .i64 x.2.2]) (.agg #[.string ⟨y.1.toArray⟩, .int .i64 y.2.1, .int .i64 y.2.2])).run Tryz.prog w = .ok (.bool (decide (x = y))) w := by
  rw [run_eql_struct, eql_pc]; simp [Result.andThen]
/-- append of entries, whatever they are, onto entries that are owned: what comes of it -/
theorem append_pcs {P : Program} (w : World) (base : Nat) (t ty e : TypeId) (i : TypeInfo) (z : Value) (ht : P.underlying t = some (.slice e)) (hi : P.info? e = some i) (hz : i.zero = some z)
    (hsize : i.size = 3) (hby : i.bytes = 32) (hzs : z.cells.size = 3)
    (v : Value) (n : Nat) (xs : List Value) (hown : w.ownsRow base e 3 v n xs) (A : Nat → Prop) (xv : Value) (l : List Pc) (hx : PcsIn w A xv l) (h63 : (n + l.length) * 32 ≤ 140737488355328) (hbase : base ≤ w.heap.size) :
    ∃ v' w', (Builtin.append_ #[t, t] ty #[v, xv]).run P w = .ok v' w' ∧ w'.ownsRow base e 3 v' (n + l.length) (xs ++ pcsCells l) ∧ w.grownBy w' v.ownBlock ∧ (v'.ownBlock = v.ownBlock ∨ v'.ownBlock = some w.heap.size) := by
  have hx2 := hx
  obtain ⟨a, cap, rfl, hnil, _⟩ := hx2
  cases a with
  | none =>
    obtain ⟨rfl, hl, _⟩ := hnil rfl
    have hl2 : l = [] := List.eq_nil_of_length_eq_zero hl
    subst hl2
    exact ⟨v, w, run_append_owned_none (P := P) (w := w) base t ty e i 3 ht hi v n xs hown, by simpa [pcsCells] using hown, ⟨rfl, rfl, rfl, Nat.le_refl _, fun _ _ _ => rfl⟩, Or.inl rfl⟩
  | some ad =>
    obtain ⟨v', w', h1, h2, h3, _, h4⟩ := run_append_own_at (P := P) w base t ty e i z 3 32 ht hi hz hsize hby hzs (by decide) v n xs hown ad l.length cap (pcsCells l) (pcsCells_len l) (RowIn.cells hx) (pcsCells_one l) (by unfold maxLen; omega) (by omega) hbase
    exact ⟨v', w', h1, h2, h3, h4⟩
/-- the same, at the operation of a plain walk -/
theorem wpList_append_pcs {P : Program} {ops : Array Oper} {rest : List Oper} {o : Oper} {a : Act} {w : World} {Q : Exit → Act → World → Prop} (hgd : o.guard = none) (s x : Operand) (t : TypeId)
    (ho : o.op = .call { callee := .builtin .append, args := #[s, x], argTypes := #[t, t] })
    (base : Nat) (e : TypeId) (i : TypeInfo) (z : Value) (ht : P.underlying t = some (.slice e)) (hi : P.info? e = some i) (hz : i.zero = some z)
    (hsize : i.size = 3) (hby : i.bytes = 32) (hzs : z.cells.size = 3)
    (v : Value) (n : Nat) (xs : List Value) (hs : a.eval s = v) (hown : w.ownsRow base e 3 v n xs) (A : Nat → Prop) (xv : Value) (l : List Pc) (hx : a.eval x = xv) (hxv : PcsIn w A xv l) (h63 : (n + l.length) * 32 ≤ 140737488355328) (hbase : base ≤ w.heap.size)
    (h : ∀ v' w', w'.ownsRow base e 3 v' (n + l.length) (xs ++ pcsCells l) → w.grownBy w' v.ownBlock → (v'.ownBlock = v.ownBlock ∨ v'.ownBlock = some w.heap.size) → wpList P ops Q rest (a.put o.dst v') w') :
    wpList P ops Q (o :: rest) a w := by
  refine wpList_plain hgd fun K hK => ?_
  obtain ⟨v', w', hr, h2, h3, h5⟩ := append_pcs (P := P) w base t o.type e i z ht hi hz hsize hby hzs v n xs hown A xv l hxv h63 hbase
  unfold Oper.wp execOp
  simp only [ho, resolve, invoke, builtin, Sem.run_bind, Sem.run_pure, Result.andThen_ok, List.map_toArray, List.map_cons, List.map_nil, hs, hx, hr]
  exact hK _ _ (h v' w' h2 h3 h5)
/-- the same, as one step of a region that draws -/
theorem step_append_pcs {P : Program} {ops : Array Oper} {o : Oper} {a : Act} {w : World} {K : Act → World → Prop} {Q : Exit → Act → World → Prop} {E : Prop} (hgd : o.guard = none) (s x : Operand) (t : TypeId)
    (ho : o.op = .call { callee := .builtin .append, args := #[s, x], argTypes := #[t, t] })
    (base : Nat) (e : TypeId) (i : TypeInfo) (z : Value) (ht : P.underlying t = some (.slice e)) (hi : P.info? e = some i) (hz : i.zero = some z)
    (hsize : i.size = 3) (hby : i.bytes = 32) (hzs : z.cells.size = 3)
    (v : Value) (n : Nat) (xs : List Value) (hs : a.eval s = v) (hown : w.ownsRow base e 3 v n xs) (A : Nat → Prop) (xv : Value) (l : List Pc) (hx : a.eval x = xv) (hxv : PcsIn w A xv l) (h63 : (n + l.length) * 32 ≤ 140737488355328) (hbase : base ≤ w.heap.size)
    (h : ∀ v' w', w'.ownsRow base e 3 v' (n + l.length) (xs ++ pcsCells l) → w.grownBy w' v.ownBlock → (v'.ownBlock = v.ownBlock ∨ v'.ownBlock = some w.heap.size) → K (a.put o.dst v') w') :
    if Region.wanted o (yielded ops a.tmps) = true then Oper.wp P o a w K Q else E := by
  have hw : Region.wanted o (yielded ops a.tmps) = true := by simp [Region.wanted, hgd]
  rw [if_pos hw]
  obtain ⟨v', w', hr, h2, h3, h5⟩ := append_pcs (P := P) w base t o.type e i z ht hi hz hsize hby hzs v n xs hown A xv l hxv h63 hbase
  unfold Oper.wp execOp
  simp only [ho, resolve, invoke, builtin, Sem.run_bind, Sem.run_pure, Result.andThen_ok, List.map_toArray, List.map_cons, List.map_nil, hs, hx, hr]
  exact h v' w' h2 h3 h5
/-- a list of one entry, made -/
theorem lit_pc (u : World) (e : Pc) : ∃ U, U = u.alloc (.cells #[.string ⟨e.1.toArray⟩, .int .i64 e.2.1, .int .i64 e.2.2] 62) ∧ Below u.heap.size u U ∧ U.heap.size = u.heap.size + 1 ∧ U.ownsRow u.heap.size 62 3 (.slice (some ⟨u.heap.size, 0, none⟩) 1 1) 1 (pcsCells [e]) :=
  ⟨_, rfl, (Below.refl _ _).alloc (Nat.le_refl _) _, by simp, rfl, Or.inr ⟨u.heap.size, 1, #[.string ⟨e.1.toArray⟩, .int .i64 e.2.1, .int .i64 e.2.2], rfl, Nat.le_refl _, heap_alloc_new u _, Nat.le_refl _, by decide, rfl, rfl⟩⟩
end Go.Proofs.YtohlepbfjgehgaaGreatDoor

/-
  What is proved here: pieces of all keys in plain lists: which may be a route's, a key's owner, cuts and moves; over this program.
-/
namespace Go.Proofs.YtohlepbfjgehgaaGreatDoor
open Go.RowKit Go.Extern.Stop Go.Stop Go.Extern

theorem kLe_trans {a b c : List UInt8} (h : ¬ kLt b a) (h2 : ¬ kLt c b) : ¬ kLt c a := fun h3 => by
  by_cases e : a = b
  · subst e; exact h2 h3
  · rcases kLt_total e with h4 | h4
    · exact h2 (kLt_trans h3 h4)
    · exact h h4
theorem kLt_le {a b c : List UInt8} (h : kLt a b) (h2 : ¬ kLt c b) : kLt a c := by
  by_cases e : b = c
  · subst e; exact h
  · rcases kLt_total e with h4 | h4
    · exact kLt_trans h h4
    · exact absurd h4 h2
theorem kLe_lt {a b c : List UInt8} (h : ¬ kLt b a) (h2 : kLt b c) : kLt a c := by
  by_cases e : a = b
  · subst e; exact h2
  · rcases kLt_total e with h4 | h4
    · exact kLt_trans h4 h2
    · exact absurd h4 h
theorem kLe_eq {a b : List UInt8} (h : ¬ kLt a b) (h2 : ¬ kLt b a) : a = b := by
  by_cases e : a = b
  · exact e
  · rcases kLt_total e with h4 | h4
    · exact absurd h4 h
    · exact absurd h4 h2
theorem kLt_nil (a : List UInt8) : ¬ kLt a [] := by
  cases a <;> simp [kLt, Op.bytesLess]
theorem bl_true {a b : List UInt8} (h : kLt a b) : Op.bytesLess a b = true := h
theorem bl_false {a b : List UInt8} (h : ¬ kLt a b) : Op.bytesLess a b = false := by simpa [kLt] using h

/-- pieces rise -/
def PRise (L : List Pc) : Prop := L.Pairwise fun a b => kLt a.1 b.1
theorem PRise.at {L : List Pc} (h : PRise L) {i j : Nat} {a b : Pc} (hij : i < j) (ha : L[i]? = some a) (hb : L[j]? = some b) : kLt a.1 b.1 := by
  obtain ⟨h1, rfl⟩ := List.getElem?_eq_some_iff.1 ha
  obtain ⟨h2, rfl⟩ := List.getElem?_eq_some_iff.1 hb
  exact List.pairwise_iff_getElem.1 h i j h1 h2 hij
theorem PRise.one {L : List Pc} (h : PRise L) {p q : Pc} (hp : p ∈ L) (hq : q ∈ L) (he : p.1 = q.1) : p = q := by
  obtain ⟨i, hi⟩ := List.getElem?_of_mem hp
  obtain ⟨j, hj⟩ := List.getElem?_of_mem hq
  rcases Nat.lt_trichotomy i j with c | c | c
  · have := h.at c hi hj; rw [he] at this; exact absurd this (kLt_irrefl _)
  · subst c; rw [hi] at hj; exact Option.some.inj hj
  · have := h.at c hj hi; rw [he] at this; exact absurd this (kLt_irrefl _)
/-- a piece's numbers may be -/
def PcOk (p : Pc) : Prop := p.1.length ≤ 16 ∧ 0 ≤ p.2.1 ∧ p.2.1 < 4 ∧ 1 ≤ p.2.2 ∧ p.2.2 ≤ 1099511627776
/-- the piece at a place may stand there -/
def MayAt (L : List Pc) (i : Nat) : Prop := ∀ p, L[i]? = some p → (i = 0 → p.1 = []) ∧ (∀ j q, i = j + 1 → L[j]? = some q → kLt q.1 p.1) ∧ PcOk p
def FitPTo (L : List Pc) (k : Nat) : Prop := ∀ i, i < k → MayAt L i
/-- they may be a route's -/
structure FitP (L : List Pc) : Prop where
  one : L ≠ []
  few : L.length ≤ 32
  may : FitPTo L L.length
theorem FitP.rise {L : List Pc} (h : FitP L) : PRise L := by
  refine List.pairwise_iff_getElem.2 fun i j hi hj hij => ?_
  induction j with
  | zero => omega
  | succ j ih =>
    have h1 := (h.may (j + 1) hj _ (List.getElem?_eq_getElem hj)).2.1 j _ rfl (List.getElem?_eq_getElem (show j < L.length by omega))
    by_cases e : i = j
    · subst e; exact h1
    · exact kLt_trans (ih (by omega) (by omega)) h1
theorem FitP.ok {L : List Pc} (h : FitP L) {p : Pc} (hp : p ∈ L) : PcOk p := by
  obtain ⟨i, hi⟩ := List.getElem?_of_mem hp
  exact (h.may i (List.getElem?_eq_some_iff.1 hi).1 p hi).2.2
theorem FitP.first {L : List Pc} (h : FitP L) {p : Pc} (hp : L[0]? = some p) : p.1 = [] := (h.may 0 (List.getElem?_eq_some_iff.1 hp).1 p hp).1 rfl
theorem fit_mk {L : List Pc} (h1 : L ≠ []) (h2 : L.length ≤ 32) (h3 : ∀ p, L[0]? = some p → p.1 = []) (h4 : PRise L) (h5 : ∀ p ∈ L, PcOk p) : FitP L :=
  ⟨h1, h2, fun i hi p hp => ⟨fun e => by subst e; exact h3 p hp, fun j q e hq => h4.at (by omega) hq hp, h5 p (List.mem_of_getElem? hp)⟩⟩
/-- rises, and begins at the empty key -/
structure Lin (L : List Pc) : Prop where
  rise : PRise L
  first : ∀ p, L[0]? = some p → p.1 = []
  one : L ≠ []
theorem FitP.lin {L : List Pc} (h : FitP L) : Lin L := ⟨h.rise, fun _ hp => h.first hp, h.one⟩

/-- the place of the piece that a key is in -/
def HoldIs (L : List Pc) (key : List UInt8) (a : Nat) : Prop := a < L.length ∧ (∀ j x, j ≤ a → L[j]? = some x → ¬ kLt key x.1) ∧ (∀ j x, a < j → L[j]? = some x → kLt key x.1)
theorem hold_one {L : List Pc} {key : List UInt8} {a b : Nat} (ha : HoldIs L key a) (hb : HoldIs L key b) : a = b := by
  rcases Nat.lt_trichotomy a b with c | c | c
  · exact absurd (ha.2.2 b _ c (List.getElem?_eq_getElem hb.1)) (hb.2.1 b _ (Nat.le_refl _) (List.getElem?_eq_getElem hb.1))
  · exact c
  · exact absurd (hb.2.2 a _ c (List.getElem?_eq_getElem ha.1)) (ha.2.1 a _ (Nat.le_refl _) (List.getElem?_eq_getElem ha.1))
/-- the piece that a key is in -/
def OwnIs (L : List Pc) (key : List UInt8) (p : Pc) : Prop := ∃ a, HoldIs L key a ∧ L[a]? = some p
theorem own_one {L : List Pc} {key : List UInt8} {p q : Pc} (hp : OwnIs L key p) (hq : OwnIs L key q) : p = q := by
  obtain ⟨a, h1, h2⟩ := hp
  obtain ⟨b, h3, h4⟩ := hq
  obtain rfl := hold_one h1 h3
  rw [h2] at h4; exact Option.some.inj h4
theorem own_iff {L : List Pc} (hr : PRise L) {key : List UInt8} {p : Pc} : OwnIs L key p ↔ p ∈ L ∧ ¬ kLt key p.1 ∧ ∀ q ∈ L, ¬ kLt key q.1 → ¬ kLt p.1 q.1 := by
  constructor
  · rintro ⟨a, h1, h2⟩
    refine ⟨List.mem_of_getElem? h2, h1.2.1 a p (Nat.le_refl _) h2, fun q hq hk => ?_⟩
    obtain ⟨j, hj⟩ := List.getElem?_of_mem hq
    rcases Nat.lt_trichotomy j a with c | c | c
    · exact kLt_asymm (hr.at c hj h2)
    · subst c; rw [h2] at hj; cases hj; exact kLt_irrefl _
    · exact absurd (h1.2.2 j q c hj) hk
  · rintro ⟨h1, h2, h3⟩
    obtain ⟨a, ha⟩ := List.getElem?_of_mem h1
    refine ⟨a, ⟨(List.getElem?_eq_some_iff.1 ha).1, fun j x hj hx hk => ?_, fun j x hj hx => ?_⟩, ha⟩
    · by_cases e : j = a
      · subst e; rw [ha] at hx; cases hx; exact h2 hk
      · exact h2 (kLt_trans hk (hr.at (by omega) hx ha))
    · refine Classical.byContradiction fun hk => ?_
      exact h3 x (List.mem_of_getElem? hx) hk (hr.at hj ha hx)
theorem own_mem {L : List Pc} {key : List UInt8} {p : Pc} (h : OwnIs L key p) : p ∈ L := by
  obtain ⟨a, _, h2⟩ := h
  exact List.mem_of_getElem? h2
theorem own_le {L : List Pc} {key : List UInt8} {p : Pc} (h : OwnIs L key p) : ¬ kLt key p.1 := by
  obtain ⟨a, h1, h2⟩ := h
  exact h1.2.1 a p (Nat.le_refl _) h2
theorem own_max {L : List Pc} (hr : PRise L) {key : List UInt8} {p q : Pc} (h : OwnIs L key p) (hq : q ∈ L) (hk : ¬ kLt key q.1) : ¬ kLt p.1 q.1 := ((own_iff hr).1 h).2.2 q hq hk
/-- a piece owns the key that it begins at -/
theorem own_at {L : List Pc} (hr : PRise L) {p q : Pc} (h : OwnIs L q.1 p) (hq : q ∈ L) : p = q :=
  hr.one (own_mem h) hq (kLe_eq (own_max hr h hq (kLt_irrefl _)) (own_le h))
theorem own_ex {L : List Pc} (h : Lin L) (key : List UInt8) : ∃ p, OwnIs L key p := by
  have hk : ∀ k, k < L.length → (∃ a, HoldIs (L.take (k + 1)) key a ∧ a < k + 1) := by
    intro k
    induction k with
    | zero =>
      intro h0
      refine ⟨0, ⟨by rw [List.length_take]; omega, fun j x hj hx => ?_, fun j x hj hx => ?_⟩, by omega⟩
      · have hj0 : j = 0 := by omega
        subst hj0
        rw [List.getElem?_take_of_lt (by omega)] at hx
        rw [h.first x hx]; exact kLt_nil _
      · have := (List.getElem?_eq_some_iff.1 hx).1
        rw [List.length_take] at this; omega
    | succ k ih =>
      intro hk
      obtain ⟨a, h1, h2⟩ := ih (by omega)
      by_cases hx : kLt key L[k + 1].1
      · refine ⟨a, ⟨by rw [List.length_take]; omega, fun j x hj hx => ?_, fun j x hj hx2 => ?_⟩, by omega⟩
        · rw [List.getElem?_take_of_lt (by omega)] at hx
          exact h1.2.1 j x hj (by rw [List.getElem?_take_of_lt (by omega)]; exact hx)
        · have hl := (List.getElem?_eq_some_iff.1 hx2).1
          rw [List.length_take] at hl
          rw [List.getElem?_take_of_lt (by omega)] at hx2
          by_cases e : j = k + 1
          · subst e
            rw [List.getElem?_eq_getElem hk] at hx2; cases hx2; exact hx
          · exact h1.2.2 j x hj (by rw [List.getElem?_take_of_lt (by omega)]; exact hx2)
      · refine ⟨k + 1, ⟨by rw [List.length_take]; omega, fun j x hj hx2 => ?_, fun j x hj hx2 => ?_⟩, by omega⟩
        · rw [List.getElem?_take_of_lt (by omega)] at hx2
          by_cases e : j = k + 1
          · subst e
            rw [List.getElem?_eq_getElem hk] at hx2; cases hx2; exact hx
          · exact fun hkx => hx (kLt_trans hkx (h.rise.at (show j < k + 1 by omega) hx2 (List.getElem?_eq_getElem hk)))
        · have := (List.getElem?_eq_some_iff.1 hx2).1
          rw [List.length_take] at this; omega
  have hl : 0 < L.length := List.length_pos_iff.2 h.one
  obtain ⟨a, h1, h2⟩ := hk (L.length - 1) (by omega)
  rw [List.take_of_length_le (by omega)] at h1
  exact ⟨L[a]'h1.1, a, h1, List.getElem?_eq_getElem h1.1⟩

/-- what a cut at a key comes to -/
def CutIs (L : List Pc) (key : List UInt8) (L' : List Pc) : Prop :=
  ∃ a x, HoldIs L key a ∧ L[a]? = some x ∧ ((x.1 = key ∧ L' = L) ∨ (x.1 ≠ key ∧ L' = L.take (a + 1) ++ [(key, x.2)] ++ L.drop (a + 1)))
theorem cut_one {L L1 L2 : List Pc} {key : List UInt8} (h1 : CutIs L key L1) (h2 : CutIs L key L2) : L1 = L2 := by
  obtain ⟨a, x, ha, hx, h1⟩ := h1
  obtain ⟨b, y, hb, hy, h2⟩ := h2
  obtain rfl := hold_one ha hb
  rw [hx] at hy; cases hy
  rcases h1 with ⟨e1, rfl⟩ | ⟨e1, rfl⟩ <;> rcases h2 with ⟨e2, rfl⟩ | ⟨e2, rfl⟩
  · rfl
  · exact absurd e1 e2
  · exact absurd e2 e1
  · rfl
theorem mem_upto {L : List Pc} {a : Nat} {q : Pc} (h : q ∈ L.take a) : ∃ j, j < a ∧ L[j]? = some q := by
  obtain ⟨j, hj⟩ := List.getElem?_of_mem h
  have hl := (List.getElem?_eq_some_iff.1 hj).1
  rw [List.length_take] at hl
  rw [List.getElem?_take_of_lt (by omega)] at hj
  exact ⟨j, by omega, hj⟩
theorem mem_from {L : List Pc} {a : Nat} {q : Pc} (h : q ∈ L.drop a) : ∃ j, a ≤ j ∧ L[j]? = some q := by
  obtain ⟨j, hj⟩ := List.getElem?_of_mem h
  rw [List.getElem?_drop] at hj
  exact ⟨a + j, by omega, hj⟩
theorem cut_mem {L L' : List Pc} {key : List UInt8} (h : CutIs L key L') (q : Pc) : q ∈ L' ↔ q ∈ L ∨ ∃ p, OwnIs L key p ∧ q = (key, p.2) := by
  obtain ⟨a, x, ha, hx, ⟨e, rfl⟩ | ⟨e, rfl⟩⟩ := h
  · constructor
    · exact Or.inl
    · rintro (h | ⟨p, hp, rfl⟩)
      · exact h
      · obtain rfl := own_one hp ⟨a, ha, hx⟩
        subst e
        exact List.mem_of_getElem? hx
  · rw [List.mem_append, List.mem_append, List.mem_singleton]
    constructor
    · rintro ((h | rfl) | h)
      · exact Or.inl (List.mem_of_mem_take h)
      · exact Or.inr ⟨x, ⟨a, ha, hx⟩, rfl⟩
      · exact Or.inl (List.mem_of_mem_drop h)
    · rintro (h | ⟨p, hp, rfl⟩)
      · rw [← List.take_append_drop (a + 1) L, List.mem_append] at h
        rcases h with h | h
        · exact Or.inl (Or.inl h)
        · exact Or.inr h
      · obtain rfl := own_one hp ⟨a, ha, hx⟩
        exact Or.inl (Or.inr rfl)
theorem cut_lin {L L' : List Pc} {key : List UInt8} (hl : Lin L) (h : CutIs L key L') : Lin L' := by
  obtain ⟨a, x, ha, hx, ⟨e, rfl⟩ | ⟨e, rfl⟩⟩ := h
  · exact hl
  · refine ⟨?_, fun p hp => ?_, by simp⟩
    · unfold PRise
      rw [List.append_assoc, List.pairwise_append]
      refine ⟨List.Pairwise.sublist (List.take_sublist _ _) hl.rise, ?_, fun p hp q hq => ?_⟩
      · rw [List.singleton_append, List.pairwise_cons]
        refine ⟨fun q hq => ?_, List.Pairwise.sublist (List.drop_sublist _ _) hl.rise⟩
        obtain ⟨j, hj, hjq⟩ := mem_from hq
        exact ha.2.2 j q (by omega) hjq
      · obtain ⟨i, hi, hip⟩ := mem_upto hp
        have hpk : kLt p.1 key := by
          have h1 := ha.2.1 i p (by omega) hip
          by_cases e2 : i = a
          · subst e2; rw [hx] at hip; cases hip
            rcases kLt_total e with h2 | h2
            · exact h2
            · exact absurd h2 h1
          · exact kLt_le (hl.rise.at (by omega) hip hx) (ha.2.1 a x (Nat.le_refl _) hx)
        rcases List.mem_cons.1 hq with rfl | hq
        · exact hpk
        · obtain ⟨j, hj, hjq⟩ := mem_from hq
          exact kLt_trans hpk (ha.2.2 j q (by omega) hjq)
    · refine hl.first p ?_
      rw [List.append_assoc, List.getElem?_append_left (by rw [List.length_take]; have := ha.1; omega), List.getElem?_take_of_lt (by omega)] at hp
      exact hp
theorem cut_len {L L' : List Pc} {key : List UInt8} (h : CutIs L key L') : L.length ≤ L'.length ∧ L'.length ≤ L.length + 1 := by
  obtain ⟨a, x, ha, hx, ⟨e, rfl⟩ | ⟨e, rfl⟩⟩ := h
  · omega
  · have := ha.1
    simp only [List.length_append, List.length_take, List.length_drop, List.length_cons, List.length_nil]; omega
theorem cut_begins {L L' : List Pc} {key : List UInt8} (h : CutIs L key L') : ∃ q ∈ L', q.1 = key := by
  have hm := cut_mem h
  obtain ⟨a, x, ha, hx, _⟩ := h
  exact ⟨(key, x.2), (hm _).2 (Or.inr ⟨x, ⟨a, ha, hx⟩, rfl⟩), rfl⟩
theorem cut_own {L L' : List Pc} {c k : List UInt8} {p p' : Pc} (hl : Lin L) (hc : CutIs L c L') (h : OwnIs L k p) (h' : OwnIs L' k p') : p'.2 = p.2 ∧ (p'.1 = p.1 ∨ p'.1 = c) := by
  have hr' := (cut_lin hl hc).rise
  have hm := cut_mem hc
  have hsub : ∀ q ∈ L, ¬ kLt k q.1 → ¬ kLt p'.1 q.1 := fun q hq hk => own_max hr' h' ((hm q).2 (Or.inl hq)) hk
  rcases (hm p').1 (own_mem h') with h1 | ⟨p0, h0, rfl⟩
  · obtain rfl := own_one h ((own_iff hl.rise).2 ⟨h1, own_le h', hsub⟩)
    exact ⟨rfl, Or.inl rfl⟩
  · have h2 : OwnIs L k p0 := (own_iff hl.rise).2 ⟨own_mem h0, kLe_trans (own_le h0) (own_le h'), fun q hq hk => own_max hl.rise h0 hq (hsub q hq hk)⟩
    obtain rfl := own_one h h2
    exact ⟨rfl, Or.inr rfl⟩
theorem cut_nil {L : List Pc} (hl : Lin L) : CutIs L [] L := by
  obtain ⟨p, a, ha, hp⟩ := own_ex hl []
  refine ⟨a, p, ha, hp, Or.inl ⟨?_, rfl⟩⟩
  exact kLe_eq (kLt_nil _) (ha.2.1 a p (Nat.le_refl _) hp)

/-- is a key in the range? -/
def inRk (fk tk k : List UInt8) : Bool := !(Op.bytesLess k fk) && (tk == [] || Op.bytesLess k tk)
theorem inRk_iff {fk tk k : List UInt8} : inRk fk tk k = true ↔ ¬ kLt k fk ∧ (tk = [] ∨ kLt k tk) := by
  unfold inRk kLt
  simp
/-- is that a range? -/
def IsRange (fk tk : List UInt8) : Prop := fk.length ≤ 16 ∧ (tk = [] ∨ (kLt fk tk ∧ tk.length ≤ 16))
def IsShard (s : Int) : Prop := 0 ≤ s ∧ s < 4
/-- a piece of the range, given to a shard -/
def updP (fk tk : List UInt8) (s : Int) (p : Pc) : Pc := if inRk fk tk p.1 = true then (p.1, s, p.2.2 + 1) else p
theorem updP_from (fk tk : List UInt8) (s : Int) (p : Pc) : (updP fk tk s p).1 = p.1 := by unfold updP; split <;> rfl
/-- what Move comes to: the error's number and its place, and what the pieces are then -/
def MoveIs (L : List Pc) (fk tk : List UInt8) (s : Int) (n : Int) (at' : Int) (L' : List Pc) : Prop :=
  (¬ IsRange fk tk ∧ n = 91 ∧ at' = 0 ∧ L' = L) ∨
  (IsRange fk tk ∧ ¬ IsShard s ∧ n = 1 ∧ at' = s ∧ L' = L) ∨
  (IsRange fk tk ∧ IsShard s ∧ ∃ L1 L2, CutIs L fk L1 ∧ CutIs L1 tk L2 ∧
    (((∃ p ∈ L2, inRk fk tk p.1 = true ∧ 1099511627776 ≤ p.2.2) ∧ n = 1 ∧ at' = -1 ∧ L' = L) ∨
     ((∀ p ∈ L2, inRk fk tk p.1 = true → p.2.2 < 1099511627776) ∧ 32 < L2.length ∧ n = 71 ∧ at' = L2.length ∧ L' = L) ∨
     ((∀ p ∈ L2, inRk fk tk p.1 = true → p.2.2 < 1099511627776) ∧ L2.length ≤ 32 ∧ n = 0 ∧ at' = 0 ∧ L' = L2.map (updP fk tk s))))
theorem move_one {L L1 L2 : List Pc} {fk tk : List UInt8} {s n1 n2 a1 a2 : Int} (h1 : MoveIs L fk tk s n1 a1 L1) (h2 : MoveIs L fk tk s n2 a2 L2) : n2 = n1 ∧ a2 = a1 ∧ L2 = L1 := by
  rcases h1 with ⟨r1, rfl, rfl, rfl⟩ | ⟨r1, s1, rfl, rfl, rfl⟩ | ⟨r1, s1, M1, M2, c1, c2, h1⟩
  · rcases h2 with ⟨_, rfl, rfl, rfl⟩ | ⟨r2, _⟩ | ⟨r2, _⟩
    · exact ⟨rfl, rfl, rfl⟩
    · exact absurd r2 r1
    · exact absurd r2 r1
  · rcases h2 with ⟨r2, _⟩ | ⟨_, _, rfl, rfl, rfl⟩ | ⟨_, s2, _⟩
    · exact absurd r1 r2
    · exact ⟨rfl, rfl, rfl⟩
    · exact absurd s2 s1
  · rcases h2 with ⟨r2, _⟩ | ⟨_, s2, _⟩ | ⟨_, _, N1, N2, d1, d2, h2⟩
    · exact absurd r1 r2
    · exact absurd s1 s2
    · obtain rfl := cut_one c1 d1
      obtain rfl := cut_one c2 d2
      rcases h1 with ⟨⟨p, hp, hi, he⟩, rfl, rfl, rfl⟩ | ⟨h1, l1, rfl, rfl, rfl⟩ | ⟨h1, l1, rfl, rfl, rfl⟩
      · rcases h2 with ⟨_, rfl, rfl, rfl⟩ | ⟨h2, _⟩ | ⟨h2, _⟩
        · exact ⟨rfl, rfl, rfl⟩
        · have := h2 p hp hi; omega
        · have := h2 p hp hi; omega
      · rcases h2 with ⟨⟨p, hp, hi, he⟩, _⟩ | ⟨_, _, rfl, rfl, rfl⟩ | ⟨_, l2, _⟩
        · have := h1 p hp hi; omega
        · exact ⟨rfl, rfl, rfl⟩
        · omega
      · rcases h2 with ⟨⟨p, hp, hi, he⟩, _⟩ | ⟨_, l2, _⟩ | ⟨_, _, rfl, rfl, rfl⟩
        · have := h1 p hp hi; omega
        · omega
        · exact ⟨rfl, rfl, rfl⟩
/-- with an error nothing is cut -/
theorem move_bad {L L' : List Pc} {fk tk : List UInt8} {s n a : Int} (h : MoveIs L fk tk s n a L') (hn : n ≠ 0) : L' = L := by
  rcases h with ⟨_, _, _, h⟩ | ⟨_, _, _, _, h⟩ | ⟨_, _, M1, M2, _, _, ⟨_, _, _, h⟩ | ⟨_, _, _, _, h⟩ | ⟨_, _, h, _⟩⟩
  · exact h
  · exact h
  · exact h
  · exact h
  · exact absurd h hn
theorem move_ok {L L' : List Pc} {fk tk : List UInt8} {s a : Int} (h : MoveIs L fk tk s 0 a L') : IsRange fk tk ∧ IsShard s ∧ ∃ L1 L2, CutIs L fk L1 ∧ CutIs L1 tk L2 ∧ (∀ p ∈ L2, inRk fk tk p.1 = true → p.2.2 < 1099511627776) ∧ L2.length ≤ 32 ∧ L' = L2.map (updP fk tk s) := by
  rcases h with ⟨_, h, _⟩ | ⟨_, _, h, _⟩ | ⟨r, hs, M1, M2, c1, c2, ⟨_, h, _⟩ | ⟨_, _, h, _⟩ | ⟨h1, h2, _, _, h3⟩⟩
  · exact absurd h (by decide)
  · exact absurd h (by decide)
  · exact absurd h (by decide)
  · exact absurd h (by decide)
  · exact ⟨r, hs, M1, M2, c1, c2, h1, h2, h3⟩
theorem upd_lin {L : List Pc} {fk tk : List UInt8} {s : Int} (h : Lin L) : Lin (L.map (updP fk tk s)) := by
  refine ⟨?_, fun p hp => ?_, by simpa using h.one⟩
  · unfold PRise
    rw [List.pairwise_map]
    exact List.Pairwise.imp (fun {a b} hab => by rw [updP_from, updP_from]; exact hab) h.rise
  · rw [List.getElem?_map, Option.map_eq_some_iff] at hp
    obtain ⟨q, hq, rfl⟩ := hp
    rw [updP_from]; exact h.first q hq
theorem upd_own {L : List Pc} {fk tk k : List UInt8} {s : Int} {p : Pc} (h : OwnIs (L.map (updP fk tk s)) k p) : ∃ q, OwnIs L k q ∧ p = updP fk tk s q := by
  obtain ⟨a, h1, h2⟩ := h
  rw [List.getElem?_map, Option.map_eq_some_iff] at h2
  obtain ⟨q, hq, rfl⟩ := h2
  refine ⟨q, ⟨a, ⟨by simpa using h1.1, fun j x hj hx => ?_, fun j x hj hx => ?_⟩, hq⟩, rfl⟩
  · have := h1.2.1 j (updP fk tk s x) hj (by rw [List.getElem?_map, hx]; rfl)
    rwa [updP_from] at this
  · have := h1.2.2 j (updP fk tk s x) hj (by rw [List.getElem?_map, hx]; rfl)
    rwa [updP_from] at this
theorem cut_ok {L L' : List Pc} {key : List UInt8} (hk : key.length ≤ 16) (h : CutIs L key L') (hok : ∀ p ∈ L, PcOk p) : ∀ p ∈ L', PcOk p := by
  intro q hq
  rcases (cut_mem h q).1 hq with h1 | ⟨p, hp, rfl⟩
  · exact hok q h1
  · have := hok p (own_mem hp)
    exact ⟨hk, this.2⟩
theorem IsRange.to {fk tk : List UInt8} (h : IsRange fk tk) : tk.length ≤ 16 := by
  rcases h.2 with e | e
  · subst e; simp
  · exact e.2
theorem move_fit {L L' : List Pc} {fk tk : List UInt8} {s n a : Int} (hf : FitP L) (h : MoveIs L fk tk s n a L') : FitP L' := by
  by_cases hn : n = 0
  · subst hn
    obtain ⟨r, hs, M1, M2, c1, c2, he, hlen, rfl⟩ := move_ok h
    have hl2 := cut_lin (cut_lin hf.lin c1) c2
    have hk := cut_ok r.to c2 (cut_ok r.1 c1 (fun p hp => hf.ok hp))
    have hl3 := upd_lin (fk := fk) (tk := tk) (s := s) hl2
    refine fit_mk hl3.one (by simpa using hlen) hl3.first hl3.rise fun p hp => ?_
    obtain ⟨q, hq, rfl⟩ := List.mem_map.1 hp
    have h1 := hk q hq
    unfold updP
    split
    · rename_i hin
      have h2 := he q hq hin
      exact ⟨h1.1, hs.1, hs.2, by show 1 ≤ q.2.2 + 1; have := h1.2.2.2.1; omega, by show q.2.2 + 1 ≤ _; omega⟩
    · exact h1
  · rw [move_bad h hn]; exact hf
/-- P9.2, P9.3 in plain words -/
theorem move_own {L L' : List Pc} {fk tk k : List UInt8} {s a : Int} {p p' : Pc} (hf : FitP L) (h : MoveIs L fk tk s 0 a L') (hp : OwnIs L k p) (hp' : OwnIs L' k p') :
    if inRk fk tk k = true then p'.2.1 = s ∧ p'.2.2 = p.2.2 + 1 ∧ p.2.2 < 1099511627776 else p'.2 = p.2 := by
  obtain ⟨r, hs, M1, M2, c1, c2, he, hlen, rfl⟩ := move_ok h
  obtain ⟨q, hq, rfl⟩ := upd_own hp'
  have hl1 := cut_lin hf.lin c1
  have hl2 := cut_lin hl1 c2
  obtain ⟨p1, hp1⟩ := own_ex hl1 k
  have e1 := (cut_own hf.lin c1 hp hp1).1
  have e2 := (cut_own hl1 c2 hp1 hq).1
  have e3 : q.2 = p.2 := e2.trans e1
  obtain ⟨x, hx, hxe⟩ := cut_begins c1
  have hx2 : x ∈ M2 := (cut_mem c2 x).2 (Or.inl hx)
  have hkey : inRk fk tk q.1 = inRk fk tk k := by
    cases hin : inRk fk tk k with
    | true =>
      obtain ⟨h1, h2⟩ := inRk_iff.1 hin
      refine inRk_iff.2 ⟨?_, ?_⟩
      · have := own_max hl2.rise hq hx2 (by rw [hxe]; exact h1)
        rw [hxe] at this; exact this
      · rcases h2 with h2 | h2
        · exact Or.inl h2
        · exact Or.inr (kLe_lt (own_le hq) h2)
    | false =>
      cases hq2 : inRk fk tk q.1 with
      | false => rfl
      | true =>
        obtain ⟨h1, h2⟩ := inRk_iff.1 hq2
        have h3 : ¬ kLt k fk := kLe_trans h1 (own_le hq)
        rcases Decidable.em (tk = []) with h4 | h4
        · rw [inRk_iff.2 ⟨h3, Or.inl h4⟩] at hin; cases hin
        · have h5 : ¬ kLt k tk := fun h5 => by rw [inRk_iff.2 ⟨h3, Or.inr h5⟩] at hin; cases hin
          obtain ⟨y, hy, hye⟩ := cut_begins c2
          have h6 := own_max hl2.rise hq hy (by rw [hye]; exact h5)
          rw [hye] at h6
          rcases h2 with h2 | h2
          · exact absurd h2 h4
          · exact absurd h2 h6
  unfold updP
  rw [hkey]
  split
  · rename_i hin
    have h9 := he q (own_mem hq) (by rw [hkey]; exact hin)
    rw [e3] at h9
    exact ⟨rfl, by show q.2.2 + 1 = _; rw [e3], h9⟩
  · exact e3

/-- what One answers -/
def zeroP : Pc := ([], 0, 0)
def Alone (L : List Pc) (fk tk : List UInt8) : Prop := ∀ q ∈ L, kLt fk q.1 → ¬ (tk = [] ∨ kLt q.1 tk)
def OneIs (L : List Pc) (fk tk : List UInt8) (x : Pc) (is : Bool) : Prop := (is = true ∧ IsRange fk tk ∧ Alone L fk tk ∧ OwnIs L fk x) ∨ (is = false ∧ ¬ (IsRange fk tk ∧ Alone L fk tk) ∧ x = zeroP)
theorem one_one {L : List Pc} {fk tk : List UInt8} {x y : Pc} {a b : Bool} (h : OneIs L fk tk x a) (h' : OneIs L fk tk y b) : y = x ∧ b = a := by
  rcases h with ⟨rfl, h1, h2, h3⟩ | ⟨rfl, h1, rfl⟩ <;> rcases h' with ⟨rfl, g1, g2, g3⟩ | ⟨rfl, g1, rfl⟩
  · exact ⟨own_one g3 h3, rfl⟩
  · exact absurd ⟨h1, h2⟩ g1
  · exact absurd ⟨g1, g2⟩ h1
  · exact ⟨rfl, rfl⟩
/-- each key of a range that lies in one piece is in that piece -/
theorem one_own {L : List Pc} {fk tk k : List UInt8} {x p : Pc} (hl : Lin L) (h : OneIs L fk tk x true) (hk : inRk fk tk k = true) (hp : OwnIs L k p) : p = x := by
  rcases h with ⟨_, h1, h2, h3⟩ | ⟨h, _⟩
  · obtain ⟨g1, g2⟩ := inRk_iff.1 hk
    refine own_one hp ((own_iff hl.rise).2 ⟨own_mem h3, kLe_trans (own_le h3) g1, fun q hq hqk => ?_⟩)
    refine own_max hl.rise h3 hq fun hfq => ?_
    refine h2 q hq hfq ?_
    rcases g2 with g2 | g2
    · exact Or.inl g2
    · exact Or.inr (kLe_lt hqk g2)
  · cases h
/-- what Of answers: the error's number and its place -/
def OfIs (L : List Pc) (n : Int) (at' : Int) : Prop :=
  (L = [] ∧ n = 1 ∧ at' = 0) ∨ (L ≠ [] ∧ 32 < L.length ∧ n = 71 ∧ at' = L.length) ∨
  (L ≠ [] ∧ L.length ≤ 32 ∧ ∃ i : Nat, i < L.length ∧ FitPTo L i ∧ ¬ MayAt L i ∧ n = 1 ∧ at' = i) ∨ (FitP L ∧ n = 0 ∧ at' = 0)
theorem of_one {L : List Pc} {n1 n2 a1 a2 : Int} (h1 : OfIs L n1 a1) (h2 : OfIs L n2 a2) : n2 = n1 ∧ a2 = a1 := by
  rcases h1 with ⟨rfl, rfl, rfl⟩ | ⟨c1, l1, rfl, rfl⟩ | ⟨c1, l1, i, i1, f1, m1, rfl, rfl⟩ | ⟨f1, rfl, rfl⟩
  · rcases h2 with ⟨_, rfl, rfl⟩ | ⟨c2, _⟩ | ⟨c2, _⟩ | ⟨f2, _⟩
    · exact ⟨rfl, rfl⟩
    · exact absurd rfl c2
    · exact absurd rfl c2
    · exact absurd rfl f2.one
  · rcases h2 with ⟨c2, _⟩ | ⟨_, _, rfl, rfl⟩ | ⟨_, l2, _⟩ | ⟨f2, _⟩
    · exact absurd c2 c1
    · exact ⟨rfl, rfl⟩
    · omega
    · have := f2.few; omega
  · rcases h2 with ⟨c2, _⟩ | ⟨_, l2, _⟩ | ⟨_, _, j, j1, g1, k1, rfl, rfl⟩ | ⟨f2, _⟩
    · exact absurd c2 c1
    · omega
    · rcases Nat.lt_trichotomy i j with c | c | c
      · exact absurd (g1 i c) m1
      · subst c; exact ⟨rfl, rfl⟩
      · exact absurd (f1 j c) k1
    · exact absurd (f2.may i i1) m1
  · rcases h2 with ⟨c2, _⟩ | ⟨_, l2, _⟩ | ⟨_, _, j, j1, g1, k1, _⟩ | ⟨_, rfl, rfl⟩
    · exact absurd c2 f1.one
    · have := f1.few; omega
    · exact absurd (f1.may j j1) k1
    · exact ⟨rfl, rfl⟩
theorem of_fit {L : List Pc} {n a : Int} (h : OfIs L n a) : (n = 0 ∧ FitP L) ∨ (n ≠ 0 ∧ ¬ FitP L) := by
  rcases h with ⟨rfl, rfl, _⟩ | ⟨c1, l1, rfl, _⟩ | ⟨c1, l1, i, i1, f1, m1, rfl, _⟩ | ⟨f1, rfl, _⟩
  · exact Or.inr ⟨by decide, fun h => h.one rfl⟩
  · exact Or.inr ⟨by decide, fun h => by have := h.few; omega⟩
  · exact Or.inr ⟨by decide, fun h => m1 (h.may i i1)⟩
  · exact Or.inl ⟨rfl, f1⟩
end Go.Proofs.YtohlepbfjgehgaaGreatDoor

/-
  What is proved here: route's find, holder: a piece is found by halves; over this program.
-/
namespace Go.Proofs.YtohlepbfjgehgaaGreatDoor
open Go.RowKit Go.Extern.Stop Go.Stop Go.Extern

set_option maxRecDepth 100000 in
set_option maxHeartbeats 4000000 in
theorem sSearch_any (g : Nat) (cb : Array Value) (n : Nat) (p : Nat → Bool) (w : World) (hen : ∀ args w, (callFunc g args).run Tryz.prog w = .ok (.enter g args) w) (hn : n ≤ 100000)
    (hf : ∀ W, Below w.heap.size w W → ∀ i : Nat, i < n → Calls Tryz.prog g (#[.int .i64 i] ++ cb) W fun e w' => e = .returned (.bool (p i)) ∧ Below W.heap.size W w')
    (hm : ∀ a b, a ≤ b → b < n → p a = true → p b = true) :
    Calls Tryz.prog 119 #[.int .i64 n, .func (.func g) #[] cb] w fun e w' => ∃ a : Nat, e = .returned (.int .i64 a) ∧ (a ≤ n ∧ (∀ j, j < a → p j = false) ∧ (∀ j, a ≤ j → j < n → p j = true)) ∧ Below w.heap.size w w' := by
  have HF := hideIt hf
  have HM := hideIt hm
  clear hf hm
  go_enter Tryz.func119, Tryz.ntmps119
  go_wp2
  go_loopw [5, 6] (fun s5 s6 wr => ∃ lo hi : Nat, s5 = .int .i64 lo ∧ s6 = .int .i64 hi ∧ lo ≤ hi ∧ hi ≤ n ∧ Hid ((∀ j, j < lo → p j = false) ∧ (∀ j, hi ≤ j → j < n → p j = true)) ∧ Hid (Below w.heap.size w wr)) (fun s5 s6 _ => (intOf s6).toNat - (intOf s5).toNat)
  case atStart => exact ⟨0, n, rfl, rfl, Nat.zero_le _, Nat.le_refl _, hideIt ⟨(fun j h => by omega), (fun j h he => by omega)⟩, Below.refl _ _⟩
  case round =>
    obtain ⟨lo, hi, rfl, rfl, hlh, hhn, HI, HB⟩ := hrel
    by_cases hlt : lo < hi
    · obtain ⟨h, hh⟩ : ∃ h : Nat, h = (lo + hi) / 2 := ⟨_, rfl⟩
      have h1 : lo ≤ h := by omega
      have h2 : h < hi := by omega
      have h3 : ((lo : Int) + (hi : Int)) / 2 = (h : Int) := by omega
      clear hh
      cases hp : p h with
      | false =>
        have HC := hideIt (HF.out wr HB.out h (by omega))
        rw [hp] at HC
        have HI2 : Hid ((∀ j, j < h + 1 → p j = false) ∧ (∀ j, hi ≤ j → j < n → p j = true)) := hideIt ⟨(fun j hj => by
          cases hpj : p j with
          | false => rfl
          | true => have := HM.out j h (by omega) (by omega) hpj; rw [hp] at this; cases this), HI.out.2⟩
        clear hp
        go_wp2_with fail
        refine HC.out.mono ?_
        rintro e w2 ⟨rfl, hb2⟩
        have HB2 := hideIt (HB.out.trans (hb2.mono HB.out.size))
        clear hb2
        go_wp2
        exact ⟨⟨h + 1, hi, by go_num, rfl, by omega, hhn, HI2, HB2⟩, by simp [intOf]; omega⟩
      | true =>
        have HC := hideIt (HF.out wr HB.out h (by omega))
        rw [hp] at HC
        have HI2 : Hid ((∀ j, j < lo → p j = false) ∧ (∀ j, h ≤ j → j < n → p j = true)) := hideIt ⟨HI.out.1, fun j hj hjn => HM.out h j hj hjn hp⟩
        clear hp
        go_wp2_with fail
        refine HC.out.mono ?_
        rintro e w2 ⟨rfl, hb2⟩
        have HB2 := hideIt (HB.out.trans (hb2.mono HB.out.size))
        clear hb2
        go_wp2
        exact ⟨⟨lo, h, rfl, rfl, by omega, by omega, HI2, HB2⟩, by simp [intOf]; omega⟩
    · obtain rfl : hi = lo := by omega
      have HP := hideIt (And.intro hhn HI.out)
      go_wp2
      go_ret
      exact ⟨hi, rfl, HP.out, HB.out⟩

/-- the place of the first piece that something holds of -/
def FindIs (hb : Pc → Bool) (l : List Pc) (a : Nat) : Prop := a ≤ l.length ∧ (∀ j x, j < a → l[j]? = some x → hb x = false) ∧ (∀ j x, a ≤ j → l[j]? = some x → hb x = true)
/-- a func that tells something of a piece, wherever it is called -/
structure Tells (g : Nat) (cb : Array Value) (hb : Pc → Bool) (w : World) : Prop where
  en : ∀ args w, (callFunc g args).run Tryz.prog w = .ok (.enter g args) w
  tells : ∀ W, Below w.heap.size w W → ∀ x : Pc, Calls Tryz.prog g (#[pcV x] ++ cb) W fun e w' => e = .returned (.bool (hb x)) ∧ Below W.heap.size W w'
theorem Tells.next {g : Nat} {cb : Array Value} {hb : Pc → Bool} {w w' : World} (h : Tells g cb hb w) (hbw : Below w.heap.size w w') : Tells g cb hb w' :=
  ⟨h.en, fun W hW => h.tells W (hbw.trans (hW.mono hbw.size))⟩

theorem cell_box (w : World) (t : TypeId) (x : Value) : (w.alloc (.cells #[x] t)).cell? ⟨w.heap.size, 0, none⟩ = some x := by
  rw [World.cell?_alloc_at _ _ _ _ rfl]; rfl

set_option maxRecDepth 100000 in
set_option maxHeartbeats 4000000 in
theorem rqfiA_any (g : Nat) (cb : Array Value) (hb : Pc → Bool) (w : World) (A : Nat → Prop) (v : Value) (l : List Pc) (hv : PcsIn w A v l) (hT : Tells g cb hb w) (B1 B2 : Nat) (i : Nat) (x : Pc) (hx : l[i]? = some x)
    (h1 : w.cell? ⟨B1, 0, none⟩ = some (.func (.func g) #[] cb)) (h2 : w.cell? ⟨B2, 0, none⟩ = some v) :
    Calls Tryz.prog 120 (#[.int .i64 i] ++ #[.pointer (some ⟨B1, 0, none⟩), .pointer (some ⟨B2, 0, none⟩)]) w fun e w' => e = .returned (.bool (hb x)) ∧ Below w.heap.size w w' := by
  obtain ⟨a, cap, rfl⟩ := hv.form
  have hil := (List.getElem?_eq_some_iff.1 hx).1
  obtain ⟨b, off, rfl, _, c0, c1, c2⟩ := PcsIn.at hv hx
  have HT := hideIt hT
  have hen := hT.en
  clear hv hT hx
  have HC := hideIt (fun W hW => HT.out.tells W hW x)
  unfold pcV at HC
  go_enter Tryz.func120, Tryz.ntmps120
  go_wp2_with fail
  have HBD : Hid (Below w.heap.size w w.drew) := hideIt (Below.refl _ _).drew
  go_region_with (refine (HC.out _ HBD.out).mono ?_; rintro e w3 ⟨rfl, hb3⟩; have HB3 := hideIt (HBD.out.trans hb3); clear hb3)
  all_goals
    go_wp2
    go_ret
    exact ⟨rfl, HB3.out⟩
set_option maxRecDepth 100000 in
set_option maxHeartbeats 4000000 in
theorem rqfind_any (g : Nat) (cb : Array Value) (hb : Pc → Bool) (w : World) (A : Nat → Prop) (v : Value) (l : List Pc) (hv : PcsIn w A v l) (hT : Tells g cb hb w) (hl : l.length ≤ 100000)
    (hm : ∀ (i j : Nat) a b, i ≤ j → l[i]? = some a → l[j]? = some b → hb a = true → hb b = true) :
    Calls Tryz.prog 97 #[v, .func (.func g) #[] cb] w fun e w' => ∃ a : Nat, e = .returned (.int .i64 a) ∧ FindIs hb l a ∧ Below w.heap.size w w' := by
  have HV := hideIt hv
  obtain ⟨a, cap, rfl⟩ := hv.form
  have HT := hideIt hT
  have HM := hideIt hm
  clear hv hT hm
  have hbb : Below w.heap.size w ((w.alloc (.cells #[.slice a l.length cap] 52)).alloc (.cells #[.func (.func g) #[] cb] 151)) := ((Below.refl _ _).alloc (Nat.le_refl _) _).alloc (by simp) _
  have c1 : ((w.alloc (.cells #[.slice a l.length cap] 52)).alloc (.cells #[.func (.func g) #[] cb] 151)).cell? ⟨w.heap.size, 0, none⟩ = some (.slice a l.length cap) := by
    rw [World.cell?_alloc_lt _ _ _ (by simp), cell_box]
  have c2 : ((w.alloc (.cells #[.slice a l.length cap] 52)).alloc (.cells #[.func (.func g) #[] cb] 151)).cell? ⟨w.heap.size + 1, 0, none⟩ = some (.func (.func g) #[] cb) := by
    have h := cell_box (w.alloc (.cells #[.slice a l.length cap] 52)) 151 (.func (.func g) #[] cb)
    rwa [World.size_alloc] at h
  have HS := hideIt (And.intro hbb (And.intro c1 c2))
  clear hbb c1 c2
  go_enter Tryz.func97, Tryz.ntmps97
  go_wp2_with fail
  obtain ⟨hbb, c1, c2⟩ := HS.out
  obtain ⟨W2, hW2⟩ : ∃ W2, W2 = ((w.alloc (.cells #[.slice a l.length cap] 52)).alloc (.cells #[.func (.func g) #[] cb] 151)) := ⟨_, rfl⟩
  rw [← hW2] at hbb c1 c2 ⊢
  refine (sSearch_any 120 _ l.length (fun i => match l[i]? with | some x => hb x | none => true) W2 (fun args w => (show (callFunc 120 args).run Tryz.prog w = .ok (.enter 120 args) w by first | rfl | kernel_rfl)) hl ?_ ?_).mono ?_
  · intro W hW i hi
    obtain ⟨x, hx⟩ : ∃ x, l[i]? = some x := ⟨l[i], by simp [hi]⟩
    have hb3 := hbb.trans (hW.mono hbb.size)
    have h := rqfiA_any g cb hb W A (.slice a l.length cap) l (RowIn.kept HV.out (Kept.of_all hb3)) (HT.out.next hb3) (w.heap.size + 1) w.heap.size i x hx ((hW.cell (lt_of_cell c2)).trans c2) ((hW.cell (lt_of_cell c1)).trans c1)
    rw [hx]
    exact h
  · intro i j hij hj hi
    obtain ⟨x, hx⟩ : ∃ x, l[i]? = some x := ⟨l[i]'(by omega), by simp [show i < l.length by omega]⟩
    obtain ⟨y, hy⟩ : ∃ y, l[j]? = some y := ⟨l[j], by simp [hj]⟩
    simp only [hx, hy] at hi ⊢
    exact HM.out i j x y hij hx hy hi
  · rintro e w3 ⟨n, rfl, ⟨h1, h2, h3⟩, hb3⟩
    have HF : Hid (FindIs hb l n) := hideIt ⟨h1, fun j x hj hx => by have := h2 j hj; rw [hx] at this; exact this, fun j x hj hx => by have := h3 j hj (List.getElem?_eq_some_iff.1 hx).1; rw [hx] at this; exact this⟩
    have HB3 := hideIt (hbb.trans (hb3.mono hbb.size))
    clear h1 h2 h3 hb3 c1 c2 hbb hW2 HS
    go_wp2
    go_ret
    exact ⟨n, rfl, HF.out, HB3.out⟩
set_option maxRecDepth 100000 in
set_option maxHeartbeats 4000000 in
theorem rqhoA_any (key : List UInt8) (B : Nat) (x : Pc) (w : World) (h : w.cell? ⟨B, 0, none⟩ = some (.string ⟨key.toArray⟩)) :
    Calls Tryz.prog 98 (#[pcV x] ++ #[.pointer (some ⟨B, 0, none⟩)]) w fun e w' => e = .returned (.bool (Op.bytesLess key x.1)) ∧ Below w.heap.size w w' := by
  unfold pcV
  obtain ⟨W, hW, hwb, _, c0, c1, c2⟩ := room3 w 62 (.string ⟨x.1.toArray⟩) (.int .i64 x.2.1) (.int .i64 x.2.2)
  have d0 := (hwb.cell (lt_of_cell h)).trans h
  have HB := hideIt hwb
  have q1 := leq_iff x.1 key
  clear hwb
  subst hW
  go_enter Tryz.func98, Tryz.ntmps98
  go_wp2
  go_ret
  exact ⟨by simp, HB.out⟩
set_option maxRecDepth 100000 in
theorem tells_above (key : List UInt8) (B : Nat) (w : World) (h : w.cell? ⟨B, 0, none⟩ = some (.string ⟨key.toArray⟩)) : Tells 98 #[.pointer (some ⟨B, 0, none⟩)] (fun x => Op.bytesLess key x.1) w :=
  ⟨fun args w => (show (callFunc 98 args).run Tryz.prog w = .ok (.enter 98 args) w by first | rfl | kernel_rfl), fun W hW x => rqhoA_any key B x W ((hW.cell (lt_of_cell h)).trans h)⟩
theorem hold_of {l : List Pc} {key : List UInt8} {a : Nat} (hl : Lin l) (h : FindIs (fun x => Op.bytesLess key x.1) l a) : ∃ b, a = b + 1 ∧ HoldIs l key b := by
  obtain ⟨h1, h2, h3⟩ := h
  have hpos : 0 < l.length := List.length_pos_iff.2 hl.one
  have ha : a ≠ 0 := fun e => by
    subst e
    have h4 : Op.bytesLess key l[0].1 = true := h3 0 _ (Nat.le_refl _) (List.getElem?_eq_getElem hpos)
    have h5 := hl.first _ (List.getElem?_eq_getElem hpos)
    rw [h5] at h4
    exact kLt_nil key h4
  obtain ⟨b, rfl⟩ : ∃ b, a = b + 1 := ⟨a - 1, by omega⟩
  refine ⟨b, rfl, by omega, ?_, fun j x hj hx => h3 j x (by omega) hx⟩
  intro j x hj hx hk
  have h6 : Op.bytesLess key x.1 = false := h2 j x (by omega) hx
  rw [show Op.bytesLess key x.1 = true from hk] at h6; cases h6
set_option maxRecDepth 100000 in
set_option maxHeartbeats 4000000 in
theorem rqholder_any (w : World) (A : Nat → Prop) (v : Value) (l : List Pc) (key : List UInt8) (hv : PcsIn w A v l) (hlin : Lin l) (hl : l.length ≤ 100000) :
    Calls Tryz.prog 63 #[v, .string ⟨key.toArray⟩] w fun e w' => ∃ a : Nat, e = .returned (.int .i64 a) ∧ HoldIs l key a ∧ Below w.heap.size w w' := by
  obtain ⟨W, hW⟩ : ∃ W, W = w.alloc (.cells #[.string ⟨key.toArray⟩] 9) := ⟨_, rfl⟩
  have hbb : Below w.heap.size w W := by rw [hW]; exact (Below.refl _ _).alloc (Nat.le_refl _) _
  have c1 : W.cell? ⟨w.heap.size, 0, none⟩ = some (.string ⟨key.toArray⟩) := by rw [hW, cell_box]
  have HF := hideIt (rqfind_any 98 _ _ W A v l (RowIn.kept hv (Kept.of_all hbb)) (tells_above key _ W c1) hl (fun i j a b hij ha hb h => by
    by_cases e : i = j
    · subst e; rw [ha] at hb; cases hb; exact h
    · exact kLt_trans h (hlin.rise.at (by omega) ha hb)))
  have HB := hideIt hbb
  have HL := hideIt hlin
  have HWW := hideIt hW
  clear hv hlin hbb c1 hW
  go_enter Tryz.func63, Tryz.ntmps63
  go_wp2_with fail
  rw [← HWW.out]
  refine HF.out.mono ?_
  rintro e w1 ⟨n, rfl, hf, hb1⟩
  obtain ⟨b, hbn, hh⟩ := hold_of HL.out hf
  have hle : b ≤ 100000 := by have := hh.1; omega
  have hwn : IntKind.i64.wrap ((n : Int) - 1) = (b : Int) := by rw [show (n : Int) - 1 = (b : Int) by omega]; simp [IntKind.wrap, IntKind.bits, IntKind.signed]; omega
  have hnn : (n : Int) ≤ 1000000 := by omega
  clear hbn
  have HH := hideIt (And.intro hh (HB.out.trans (hb1.mono HB.out.size)))
  clear hf hb1 hh
  go_wp2
  go_ret
  exact ⟨b, rfl, HH.out.1, HH.out.2⟩
end Go.Proofs.YtohlepbfjgehgaaGreatDoor

/-
  What is proved here: copy of pieces, append of room onto pieces; slices.Insert of one piece; over this program.
-/
namespace Go.Proofs.YtohlepbfjgehgaaGreatDoor
open Go.RowKit Go.Extern.Stop Go.Stop Go.Extern

theorem run_copy_pcs {P : Program} (w : World) (dT sT ty elem : TypeId) (g o dLen dCap : Nat) (ad : Addr) (sLen sCap : Nat) (cur : List Value) (t : TypeId) (cs : List Value) (m : Nat)
    (hu : P.underlying dT = some (.slice elem)) (hs : (P.info? elem).map (·.size) = some 3) (hg : w.heap[g]? = some (.cells cur.toArray t (0, 0))) (hm : m = Nat.min sLen dLen) (hn : cs.length = m * 3)
    (hsrc : ∀ j v, cs[j]? = some v → w.cell? (ad.add j) = some v) (hfit : o + cs.length ≤ cur.length) (h1 : ∀ v ∈ cs, v.oneCell' = true) :
    (Builtin.copy_ #[dT, sT] ty #[.slice (some ⟨g, o, none⟩) dLen dCap, .slice (some ad) sLen sCap]).run P w = .ok (goInt m) (w.setRow g (splice cur o cs).toArray) := by
  have hl := run_loadCells_list (P := P) w ad cs hsrc
  have hst := run_storeCells_at P g o t cs 0 cur.toArray w hg (by simpa using hfit) h1
  cases hq : P.info? elem with
  | none => simp [hq] at hs
  | some i =>
    have hi : i.size = 3 := by simpa [hq] using hs
    rw [hn] at hl
    simp [Builtin.copy_, run_underlying hu, Builtin.lenOf, Builtin.firstCells, sizeOf, typeInfo, hq, hi, ← hm, hl, hst, splice]
/-- copy of pieces, at the operation of a plain walk -/
theorem wpList_copy_pcs {P : Program} (w : World) {ops : Array Oper} {rest : List Oper} {o : Oper} {a : Act} {Q : Exit → Act → World → Prop} (hgd : o.guard = none) (d s : Operand) (t t' : TypeId)
    (ho : o.op = .call { callee := .builtin .copy, args := #[d, s], argTypes := #[t, t'] }) (elem : TypeId) (hu : P.underlying t = some (.slice elem)) (hs : (P.info? elem).map (·.size) = some 3)
    (g off dLen dCap : Nat) (ad : Addr) (sLen sCap : Nat) (hd : a.eval d = .slice (some ⟨g, off, none⟩) dLen dCap) (hsv : a.eval s = .slice (some ad) sLen sCap) (cur : List Value) (te : TypeId) (hg : w.heap[g]? = some (.cells cur.toArray te (0, 0))) (cs : List Value) (m : Nat)
    (hm : m = Nat.min sLen dLen) (hn : cs.length = m * 3) (hsrc : ∀ j v, cs[j]? = some v → w.cell? (ad.add j) = some v) (hfit : off + cs.length ≤ cur.length) (h1 : ∀ v ∈ cs, v.oneCell' = true)
    (h : ∀ w', w'.heap[g]? = some (.cells (splice cur off cs).toArray te (0, 0)) → w.grownBy w' (some g) → wpList P ops Q rest (a.put o.dst (goInt m)) w') : wpList P ops Q (o :: rest) a w := by
  refine wpList_plain hgd fun K hK => ?_
  have hrun := run_copy_pcs (P := P) w t t' o.type elem g off dLen dCap ad sLen sCap cur te cs m hu hs hg hm hn hsrc hfit h1
  unfold Oper.wp execOp
  simp only [ho, resolve, invoke, builtin, Sem.run_bind, Sem.run_pure, Result.andThen_ok, List.map_toArray, List.map_cons, List.map_nil, hd, hsv, hrun]
  exact hK _ _ (h _ (setRow_heap w g _ _ te _ hg) (setRow_grown w g _))
/-- the same, as one step of a region that draws -/
theorem step_copy_pcs {P : Program} {ops : Array Oper} {o : Oper} {a : Act} {w : World} {K : Act → World → Prop} {Q : Exit → Act → World → Prop} {E : Prop} (hgd : o.guard = none) (d s : Operand) (t t' : TypeId)
    (ho : o.op = .call { callee := .builtin .copy, args := #[d, s], argTypes := #[t, t'] }) (elem : TypeId) (hu : P.underlying t = some (.slice elem)) (hs : (P.info? elem).map (·.size) = some 3)
    (g off dLen dCap : Nat) (ad : Addr) (sLen sCap : Nat) (hd : a.eval d = .slice (some ⟨g, off, none⟩) dLen dCap) (hsv : a.eval s = .slice (some ad) sLen sCap) (cur : List Value) (te : TypeId) (hg : w.heap[g]? = some (.cells cur.toArray te (0, 0))) (cs : List Value) (m : Nat)
    (hm : m = Nat.min sLen dLen) (hn : cs.length = m * 3) (hsrc : ∀ j v, cs[j]? = some v → w.cell? (ad.add j) = some v) (hfit : off + cs.length ≤ cur.length) (h1 : ∀ v ∈ cs, v.oneCell' = true)
    (h : ∀ w', w'.heap[g]? = some (.cells (splice cur off cs).toArray te (0, 0)) → w.grownBy w' (some g) → K (a.put o.dst (goInt m)) w') :
    if Region.wanted o (yielded ops a.tmps) = true then Oper.wp P o a w K Q else E := by
  have hw : Region.wanted o (yielded ops a.tmps) = true := by simp [Region.wanted, hgd]
  rw [if_pos hw]
  have hrun := run_copy_pcs (P := P) w t t' o.type elem g off dLen dCap ad sLen sCap cur te cs m hu hs hg hm hn hsrc hfit h1
  unfold Oper.wp execOp
  simp only [ho, resolve, invoke, builtin, Sem.run_bind, Sem.run_pure, Result.andThen_ok, List.map_toArray, List.map_cons, List.map_nil, hd, hsv, hrun]
  exact h _ (setRow_heap w g _ _ te _ hg) (setRow_grown w g _)
/-- append of room for k more, where there is none, at the operation of a plain walk -/
theorem wpList_append_zerosP {P : Program} (w : World) {ops : Array Oper} {rest : List Oper} {o : Oper} {a : Act} {Q : Exit → Act → World → Prop} (hgd : o.guard = none) (s x : Operand) (t tn : TypeId)
    (ho : o.op = .call { callee := .builtin .append, args := #[s, x], argTypes := #[t, tn] }) (e : TypeId) (i : TypeInfo) (z : Value) (kq kn : IntKind) (ht : P.underlying t = some (.slice e)) (htn : P.underlying tn = some (.int kn)) (hi : P.info? e = some i) (hz : i.zero = some z) (hsz : i.size = 3) (hby : i.bytes = 32) (hzs : z.cells.size = 3)
    (ad : Addr) (n c : Nat) (olds : List Value) (hs : a.eval s = .slice (some ad) n c) (hl : olds.length = n * 3) (hold : ∀ j u, olds[j]? = some u → w.cell? (ad.add j) = some u) (k : Nat) (hx : a.eval x = .int kq k) (h0 : 0 < k) (hg : c < n + k) (hb : n + k ≤ 100000)
    (h : ∀ (cap : Nat) (rest2 : List Value) w', n + k ≤ cap → cap ≤ maxLen → rest2.length = (cap - n) * 3 → w'.heap[w.heap.size]? = some (.cells (olds ++ rest2).toArray e (0, 0)) → Below w.heap.size w w' → wpList P ops Q rest (a.put o.dst (.slice (some ⟨w.heap.size, 0, none⟩) (n + k) cap)) w') :
    wpList P ops Q (o :: rest) a w := by
  refine wpList_plain hgd fun K hK => ?_
  have hf := run_firstCells_some (P := P) w.drew i.size n ad n c olds (by rw [hsz]; exact hl) hold
  have hnc : Builtin.nextslicecap (n + k) c * i.bytes ≤ 281474976710656 := by
    have := nextslicecap_le (need := n + k) (old := c) hg
    rw [hby]; omega
  have hrun := Lib.run_append_grow_zeros (P := P) w t tn o.type e i z kq kn ht htn hi hz (some ad) n c olds hf k h0 (by omega) hg (by omega) (by rw [hby]; omega) hnc
  unfold Oper.wp execOp
  simp only [ho, resolve, invoke, builtin, Sem.run_bind, Sem.run_pure, Result.andThen_ok, List.map_toArray, List.map_cons, List.map_nil, hs, hx, hrun]
  have hge := grownCap_ge w (n + k) c e
  have hle := grownCap_le_maxLen w (n + k) c e (by unfold maxLen; omega)
  refine hK _ _ (h _ ((Builtin.zeroCells z.cells k).toList ++ (Builtin.zeroCells z.cells (grownCap w (n + k) c e - (n + k))).toList) _ hge hle ?_ ?_ ?_)
  · simp [size_zeroCells, hzs]; omega
  · have := heap_alloc_new w.drew (.cells (olds.toArray ++ Builtin.zeroCells z.cells k ++ Builtin.zeroCells z.cells (grownCap w (n + k) c e - (n + k))) e)
    rw [show w.drew.heap.size = w.heap.size from rfl] at this
    rw [this]
    simp
  · exact (Below.refl _ _).drew.alloc (Nat.le_refl _) _

theorem pcsCells_take (l : List Pc) (a : Nat) : pcsCells (l.take a) = (pcsCells l).take (a * 3) := by
  induction l generalizing a with
  | nil => simp [pcsCells]
  | cons x r ih =>
    cases a with
    | zero => simp [pcsCells]
    | succ a =>
      rw [List.take_succ_cons, show (a + 1) * 3 = a * 3 + 1 + 1 + 1 by omega]
      have h1 : pcsCells (x :: r) = .string ⟨x.1.toArray⟩ :: .int .i64 x.2.1 :: .int .i64 x.2.2 :: pcsCells r := rfl
      have h2 : pcsCells (x :: r.take a) = .string ⟨x.1.toArray⟩ :: .int .i64 x.2.1 :: .int .i64 x.2.2 :: pcsCells (r.take a) := rfl
      rw [h1, h2, List.take_succ_cons, List.take_succ_cons, List.take_succ_cons, ih]
theorem pcsCells_drop (l : List Pc) (a : Nat) : pcsCells (l.drop a) = (pcsCells l).drop (a * 3) := by
  have h1 : pcsCells l = pcsCells (l.take a) ++ pcsCells (l.drop a) := by rw [← pcsCells_append, List.take_append_drop]
  by_cases ha : a ≤ l.length
  · conv => rhs; rw [h1]
    exact (List.drop_left' (by rw [pcsCells_len, List.length_take]; omega)).symm
  · rw [List.drop_eq_nil_of_le (by omega), List.drop_eq_nil_of_le (by rw [pcsCells_len]; omega)]
    rfl
/-- what Insert of one piece comes to -/
def InsPPost (w : World) (B : Nat) (v : Value) (l : List Pc) (x : Pc) (a : Nat) (e : Ending) (w' : World) : Prop :=
  ∃ v', e = .returned v' ∧ w'.ownsRow B 62 3 v' (l.length + 1) (pcsCells (l.take a ++ [x] ++ l.drop a)) ∧ w.grownBy w' v.ownBlock ∧ (v'.ownBlock = v.ownBlock ∨ ∃ g', v'.ownBlock = some g' ∧ w.heap.size ≤ g')

end Go.Proofs.YtohlepbfjgehgaaGreatDoor

/-
  What is proved here: route's isShard, isRange, wrong, mayBe; over this program.
-/
namespace Go.Proofs.YtohlepbfjgehgaaGreatDoor
open Go.RowKit Go.Extern.Stop Go.Stop Go.Extern

def shardB (s : Int) : Bool := decide (0 ≤ s) && decide (s < 4)
theorem shardB_iff {s : Int} : shardB s = true ↔ IsShard s := by unfold shardB IsShard; simp
theorem rqisShard_any (s : Int) (w : World) : Calls Tryz.prog 94 #[.int .i64 s] w fun e w' => e = .returned (.bool (shardB s)) ∧ w' = w := by
  by_cases h1 : (0 : Int) ≤ s
  · have hb : shardB s = decide (s < 4) := by unfold shardB; rw [decide_eq_true h1]; rfl
    rw [hb]
    go_enter Tryz.func94, Tryz.ntmps94
    go_wp2
    go_ret
    exact ⟨rfl, rfl⟩
  · have hb : shardB s = false := by unfold shardB; rw [decide_eq_false h1]; rfl
    rw [hb]
    go_enter Tryz.func94, Tryz.ntmps94
    go_wp2
    go_ret
    exact ⟨rfl, rfl⟩
def rangeB (fk tk : List UInt8) : Bool := decide (fk.length ≤ 16) && (tk == [] || (Op.bytesLess fk tk && decide (tk.length ≤ 16)))
theorem rangeB_iff {fk tk : List UInt8} : rangeB fk tk = true ↔ IsRange fk tk := by
  unfold rangeB IsRange kLt
  simp
def routeS : ByteArray := ⟨#[114, 111, 117, 116, 101]⟩
set_option maxRecDepth 100000 in
set_option maxHeartbeats 4000000 in
theorem rqwrong_any (w : World) (n k : Int) (hn : (n == 0) = false) :
    Calls Tryz.prog 58 #[.int .i64 n, .int .i64 k] w fun e w' => ∃ er, e = .returned er ∧ One w' (w.heap.size ≤ ·) er n routeS k ∧ Below w.heap.size w w' := by
  have HO := hideIt (fun w => Of_err n hn w)
  have HWR := hideIt (fun (W : World) => wrap_one W n routeS k)
  unfold routeS at HWR
  clear hn
  go_enter Tryz.func58, Tryz.ntmps58
  go_wp2_with (first
    | (go_at_call 38; refine (HO.out _).mono ?_; rintro e w1 ⟨rfl, rfl⟩)
    | (go_at_call 73; refine (HWR.out _).mono ?_; rintro e w3 ⟨er, rfl, ho, hb⟩
       have HR := hideIt (And.intro ho hb)
       clear ho hb))
  go_ret
  exact ⟨er, rfl, HR.out.1, HR.out.2⟩

/-- what mayBe answers -/
def MayPost (w : World) (l : List Pc) (i : Nat) (e : Ending) (w' : World) : Prop := ∃ b : Bool, e = .returned (.bool b) ∧ (b = true ↔ MayAt l i) ∧ Below w.heap.size w w'
theorem MayPost.no {w w' : World} {l : List Pc} {i : Nat} (h : ¬ MayAt l i) (hb : Below w.heap.size w w') : MayPost w l i (.returned (.bool false)) w' := ⟨false, rfl, ⟨fun h => (by cases h), fun h2 => absurd h2 h⟩, hb⟩
theorem MayPost.yes {w w' : World} {l : List Pc} {i : Nat} (h : MayAt l i) (hb : Below w.heap.size w w') : MayPost w l i (.returned (.bool true)) w' := ⟨true, rfl, ⟨fun _ => h, fun _ => rfl⟩, hb⟩
theorem may_zero {l : List Pc} {x : Pc} (hx : l[0]? = some x) : MayAt l 0 ↔ x.1 = [] ∧ PcOk x := by
  constructor
  · intro h
    have := h x hx
    exact ⟨this.1 rfl, this.2.2⟩
  · rintro ⟨h1, h2⟩ y hy
    rw [hx] at hy; cases hy
    exact ⟨fun _ => h1, fun j q e => by omega, h2⟩
theorem may_succ {l : List Pc} {j : Nat} {x y : Pc} (hx : l[j + 1]? = some x) (hy : l[j]? = some y) : MayAt l (j + 1) ↔ kLt y.1 x.1 ∧ PcOk x := by
  constructor
  · intro h
    have := h x hx
    exact ⟨this.2.1 j y rfl hy, this.2.2⟩
  · rintro ⟨h1, h2⟩ z hz
    rw [hx] at hz; cases hz
    refine ⟨fun e => by omega, fun k q e hq => ?_, h2⟩
    obtain rfl : j = k := by omega
    rw [hy] at hq; cases hq; exact h1
set_option maxRecDepth 100000 in
set_option maxHeartbeats 8000000 in
theorem rqmayBe_any (w : World) (A : Nat → Prop) (v : Value) (l : List Pc) (i : Nat) (x : Pc) (hv : PcsIn w A v l) (hx : l[i]? = some x) (hl : l.length ≤ 100000) :
    Calls Tryz.prog 59 #[v, .int .i64 i] w (MayPost w l i) := by
  have HV := hideIt (hv.mono (A' := (· < w.heap.size)) (fun _ _ h => h))
  obtain ⟨a, cap, rfl⟩ := hv.form
  have hil : (i : Int) < (l.length : Int) := by have := (List.getElem?_eq_some_iff.1 hx).1; omega
  obtain ⟨b, off, rfl, hb, c0, c1, c2⟩ := PcsIn.at HV.out hx
  obtain ⟨W, hW, hwb, hws, d0, d1, d2⟩ := room3 w 62 (.string ⟨x.1.toArray⟩) (.int .i64 x.2.1) (.int .i64 x.2.2)
  have HBW := hideIt hwb
  have HVW : Hid (PcsIn W (· < w.heap.size) (.slice (some ⟨b, off, none⟩) l.length cap) l) := RowIn.kept HV.out (Kept.of_all hwb)
  have e0 := (hwb.cell (lt_of_cell c0)).trans c0
  have e1 := (hwb.cell (lt_of_cell c1)).trans c1
  have e2 := (hwb.cell (lt_of_cell c2)).trans c2
  have HX := hideIt hx
  clear hv hwb hws hb hx
  by_cases hi0 : i = 0
  · subst hi0
    have HI := hideIt (may_zero HX.out)
    simp only [Nat.zero_mul, Nat.add_zero] at c0 c1 c2 e0 e1 e2
    rw [show ((0 : Nat) : Int) = 0 from rfl] at hil ⊢
    cases hx1 : (x.1 == []) with
    | false =>
      have HN : Hid (¬ MayAt l 0) := hideIt (fun h => by rw [(HI.out.1 h).1] at hx1; simp at hx1)
      go_enter Tryz.func59, Tryz.ntmps59
      go_wp2_with fail
      rw [← hW]
      clear hW
      go_quiet (fail)
      have HB8 := hideIt (HBW.out.trans ((below_drewN W nq).mono HBW.out.size))
      go_wp2
      go_ret
      exact .no HN.out HB8.out
    | true =>
      have HPRE : Hid (x.1 = []) := hideIt (by simpa using hx1)
      go_enter Tryz.func59, Tryz.ntmps59
      go_wp2_with fail
      rw [← hW]
      clear hW
      go_quiet (fail)
      have HB2 := hideIt (HBW.out.trans ((below_drewN W nq).mono HBW.out.size))
      obtain ⟨sb, hsb⟩ : ∃ sb, sb = shardB x.2.1 := ⟨_, rfl⟩
      have HSB := hideIt hsb
      have HSC := hideIt (fun w : World => rqisShard_any x.2.1 w)
      rw [← hsb] at HSC
      clear hsb
      by_cases h1 : (x.1.length : Int) ≤ 16
      case neg =>
        have HN : Hid (¬ MayAt l 0) := hideIt (fun h => by have := (HI.out.1 h).2.1; omega)
        have h1d : decide ((x.1.length : Int) ≤ 16) = false := decide_eq_false h1
        go_wp2_with (go_at_call 94; refine (HSC.out _).mono ?_; rintro e w4 ⟨rfl, rfl⟩)
        go_ret
        exact .no HN.out HB2.out
      cases sb with
      | false =>
        have HN : Hid (¬ MayAt l 0) := hideIt (fun h => by have h2 := shardB_iff.2 ⟨(HI.out.1 h).2.2.1, (HI.out.1 h).2.2.2.1⟩; rw [← HSB.out] at h2; cases h2)
        have h1d : decide ((x.1.length : Int) ≤ 16) = true := decide_eq_true h1
        go_wp2_with (go_at_call 94; refine (HSC.out _).mono ?_; rintro e w4 ⟨rfl, rfl⟩)
        go_ret
        exact .no HN.out HB2.out
      | true =>
      by_cases h2 : (1 : Int) ≤ x.2.2
      case neg =>
        have HN : Hid (¬ MayAt l 0) := hideIt (fun h => by have := (HI.out.1 h).2.2.2.2.1; omega)
        have h1d : decide ((x.1.length : Int) ≤ 16) = true := decide_eq_true h1
        have h2d : decide ((1 : Int) ≤ x.2.2) = false := decide_eq_false h2
        go_wp2_with (go_at_call 94; refine (HSC.out _).mono ?_; rintro e w4 ⟨rfl, rfl⟩)
        go_ret
        exact .no HN.out HB2.out
      by_cases h3 : x.2.2 ≤ 1099511627776
      case neg =>
        have HN : Hid (¬ MayAt l 0) := hideIt (fun h => by have := (HI.out.1 h).2.2.2.2.2; omega)
        have h1d : decide ((x.1.length : Int) ≤ 16) = true := decide_eq_true h1
        have h2d : decide ((1 : Int) ≤ x.2.2) = true := decide_eq_true h2
        have h3d : decide (x.2.2 ≤ 1099511627776) = false := decide_eq_false h3
        go_wp2_with (go_at_call 94; refine (HSC.out _).mono ?_; rintro e w4 ⟨rfl, rfl⟩)
        go_ret
        exact .no HN.out HB2.out
      have HN : Hid (MayAt l 0) := hideIt (HI.out.2 ⟨HPRE.out, by omega, (shardB_iff.1 HSB.out.symm).1, (shardB_iff.1 HSB.out.symm).2, h2, h3⟩)
      have h1d : decide ((x.1.length : Int) ≤ 16) = true := decide_eq_true h1
      have h2d : decide ((1 : Int) ≤ x.2.2) = true := decide_eq_true h2
      have h3d : decide (x.2.2 ≤ 1099511627776) = true := decide_eq_true h3
      go_wp2_with (go_at_call 94; refine (HSC.out _).mono ?_; rintro e w4 ⟨rfl, rfl⟩)
      go_ret
      exact .yes HN.out HB2.out
  · obtain ⟨j, rfl⟩ : ∃ j, i = j + 1 := ⟨i - 1, by omega⟩
    obtain ⟨y, hy⟩ : ∃ y, l[j]? = some y := ⟨l[j]'(by omega), by simp [show j < l.length by omega]⟩
    have HI := hideIt (may_succ HX.out hy)
    obtain ⟨b', off', hbb, _, p0, _, _⟩ := PcsIn.at HVW.out hy
    cases hbb
    have k3 : (j : Int) < (l.length : Int) := by omega
    have k4 : decide (0 < (j : Int) + 1) = true := decide_eq_true (by omega)
    have k5 : IntKind.i64.wrap (j : Int) = (j : Int) := by simp [IntKind.wrap, IntKind.bits, IntKind.signed]; omega
    have k7 : (((j : Int) + 1) == 0) = false := by simp only [beq_eq_false_iff_ne]; omega
    have q2 := leq_iff x.1 y.1
    clear hy hi0
    by_cases k6 : kLt y.1 x.1
    · have HPRE := hideIt k6
      have q1 : Op.bytesLess y.1 x.1 = true := k6
      rw [q1] at q2
      clear k6
      go_enter Tryz.func59, Tryz.ntmps59
      go_wp2_with fail
      rw [← hW]
      clear hW
      go_quiet (fail)
      have HB2 := hideIt (HBW.out.trans ((below_drewN W nq).mono HBW.out.size))
      obtain ⟨sb, hsb⟩ : ∃ sb, sb = shardB x.2.1 := ⟨_, rfl⟩
      have HSB := hideIt hsb
      have HSC := hideIt (fun w : World => rqisShard_any x.2.1 w)
      rw [← hsb] at HSC
      clear hsb
      by_cases h1 : (x.1.length : Int) ≤ 16
      case neg =>
        have HN : Hid (¬ MayAt l (j + 1)) := hideIt (fun h => by have := (HI.out.1 h).2.1; omega)
        have h1d : decide ((x.1.length : Int) ≤ 16) = false := decide_eq_false h1
        go_wp2_with (go_at_call 94; refine (HSC.out _).mono ?_; rintro e w4 ⟨rfl, rfl⟩)
        go_ret
        exact .no HN.out HB2.out
      cases sb with
      | false =>
        have HN : Hid (¬ MayAt l (j + 1)) := hideIt (fun h => by have h2 := shardB_iff.2 ⟨(HI.out.1 h).2.2.1, (HI.out.1 h).2.2.2.1⟩; rw [← HSB.out] at h2; cases h2)
        have h1d : decide ((x.1.length : Int) ≤ 16) = true := decide_eq_true h1
        go_wp2_with (go_at_call 94; refine (HSC.out _).mono ?_; rintro e w4 ⟨rfl, rfl⟩)
        go_ret
        exact .no HN.out HB2.out
      | true =>
      by_cases h2 : (1 : Int) ≤ x.2.2
      case neg =>
        have HN : Hid (¬ MayAt l (j + 1)) := hideIt (fun h => by have := (HI.out.1 h).2.2.2.2.1; omega)
        have h1d : decide ((x.1.length : Int) ≤ 16) = true := decide_eq_true h1
        have h2d : decide ((1 : Int) ≤ x.2.2) = false := decide_eq_false h2
        go_wp2_with (go_at_call 94; refine (HSC.out _).mono ?_; rintro e w4 ⟨rfl, rfl⟩)
        go_ret
        exact .no HN.out HB2.out
      by_cases h3 : x.2.2 ≤ 1099511627776
      case neg =>
        have HN : Hid (¬ MayAt l (j + 1)) := hideIt (fun h => by have := (HI.out.1 h).2.2.2.2.2; omega)
        have h1d : decide ((x.1.length : Int) ≤ 16) = true := decide_eq_true h1
        have h2d : decide ((1 : Int) ≤ x.2.2) = true := decide_eq_true h2
        have h3d : decide (x.2.2 ≤ 1099511627776) = false := decide_eq_false h3
        go_wp2_with (go_at_call 94; refine (HSC.out _).mono ?_; rintro e w4 ⟨rfl, rfl⟩)
        go_ret
        exact .no HN.out HB2.out
      have HN : Hid (MayAt l (j + 1)) := hideIt (HI.out.2 ⟨HPRE.out, by omega, (shardB_iff.1 HSB.out.symm).1, (shardB_iff.1 HSB.out.symm).2, h2, h3⟩)
      have h1d : decide ((x.1.length : Int) ≤ 16) = true := decide_eq_true h1
      have h2d : decide ((1 : Int) ≤ x.2.2) = true := decide_eq_true h2
      have h3d : decide (x.2.2 ≤ 1099511627776) = true := decide_eq_true h3
      go_wp2_with (go_at_call 94; refine (HSC.out _).mono ?_; rintro e w4 ⟨rfl, rfl⟩)
      go_ret
      exact .yes HN.out HB2.out
    · have HN : Hid (¬ MayAt l (j + 1)) := hideIt (fun h => k6 (HI.out.1 h).1)
      have q1 : Op.bytesLess y.1 x.1 = false := bl_false k6
      rw [q1] at q2
      clear k6
      go_enter Tryz.func59, Tryz.ntmps59
      go_wp2_with fail
      rw [← hW]
      clear hW
      go_quiet (fail)
      have HB8 := hideIt (HBW.out.trans ((below_drewN W nq).mono HBW.out.size))
      go_wp2
      go_ret
      exact .no HN.out HB8.out
end Go.Proofs.YtohlepbfjgehgaaGreatDoor

/-
  What is proved here: a route in memory: Of, Pieces, Owner, within, One; over this program.
-/
namespace Go.Proofs.YtohlepbfjgehgaaGreatDoor
open Go.RowKit Go.Extern.Stop Go.Stop Go.Extern

/-- a slice of pieces whose cap is no less than its length -/
def PcsC (w : World) (A : Nat → Prop) (v : Value) (l : List Pc) : Prop := PcsIn w A v l ∧ ∀ a cap, v = .slice a l.length cap → l.length ≤ cap
/-- a Route at p with the pieces l, which lie in blocks of A -/
def Rt (w : World) (p : Nat) (A : Nat → Prop) (l : List Pc) : Prop :=
  ∃ v, w.cell? ⟨p, 0, none⟩ = some v ∧ w.frozen? ⟨p, 0, none⟩ = false ∧ PcsC w A v l ∧ ¬ A p
theorem Rt.lt {w : World} {p : Nat} {A : Nat → Prop} {l : List Pc} (h : Rt w p A l) : p < w.heap.size := by
  obtain ⟨v, h1, _⟩ := h
  exact lt_of_cell (a := ⟨p, 0, none⟩) h1
theorem Rt.next {w w' : World} {p : Nat} {A : Nat → Prop} {l : List Pc} (h : Rt w p A l) (hb : Below w.heap.size w w') : Rt w' p A l := by
  obtain ⟨v, h1, h2, h3, h4⟩ := h
  exact ⟨v, (hb.cell (lt_of_cell h1)).trans h1, (World.frozen?_of_block (a := ⟨p, 0, none⟩) (hb.block p (lt_of_cell h1))).trans h2, ⟨RowIn.kept h3.1 (Kept.of_all hb), h3.2⟩, h4⟩
theorem Rt.grown {w w' : World} {p q : Nat} {A : Nat → Prop} {l : List Pc} (h : Rt w p A l) (hg : w.grownBy w' (some q)) (hq : q ≠ p) (hA : ¬ A q) : Rt w' p A l := by
  obtain ⟨v, h1, h2, h3, h4⟩ := h
  have hb := hg.block p (lt_of_cell (a := ⟨p, 0, none⟩) h1) (fun e => hq (by cases e; rfl))
  exact ⟨v, (World.cell?_of_block (a := ⟨p, 0, none⟩) hb).trans h1, (World.frozen?_of_block (a := ⟨p, 0, none⟩) hb).trans h2, ⟨RowIn.kept h3.1 (Kept.of_grown hg hA), h3.2⟩, h4⟩
theorem Rt.mono {w : World} {p : Nat} {A A' : Nat → Prop} {l : List Pc} (h : Rt w p A l) (hA : ∀ k, A k → k < w.heap.size → A' k) (hp : ¬ A' p) : Rt w p A' l := by
  obtain ⟨v, h1, h2, h3, h4⟩ := h
  exact ⟨v, h1, h2, ⟨RowIn.mono h3.1 hA, h3.2⟩, hp⟩
theorem own_capC {w : World} {B e size : Nat} {v : Value} {n : Nat} {xs : List Value} (h : w.ownsRow B e size v n xs) : ∀ a cap, v = .slice a n cap → n ≤ cap := by
  intro a cap hv
  obtain ⟨a', cap', e1, h1⟩ := own_cap h
  rw [e1] at hv; cases hv; exact h1
/-- a new route -/
def NewRt (w w' : World) (p : Nat) (l : List Pc) : Prop := w.heap.size ≤ p ∧ Rt w' p (fun k => w.heap.size ≤ k ∧ k ≠ p) l ∧ Below w.heap.size w w'
theorem new_rt (w w1 : World) (t : TypeId) (l : List Pc) (v : Value) (ho : w1.ownsRow w.heap.size 62 3 v l.length (pcsCells l)) (hb : Below w.heap.size w w1) : NewRt w (w1.alloc (.cells #[v] t)) w1.heap.size l := by
  have hb2 := (Below.refl w1.heap.size w1).alloc (Nat.le_refl _) (.cells #[v] t)
  refine ⟨hb.size, ⟨v, by rw [World.cell?_alloc_at _ _ _ _ rfl]; rfl, World.frozen?_alloc_at _ _ _ _ rfl, ⟨?_, own_capC ho⟩, fun h => h.2 rfl⟩, hb.trans (hb2.mono hb.size)⟩
  refine RowIn.kept (RowIn.mono (own_in ho) (fun k hk hl => ?_)) (Kept.of_all hb2)
  exact ⟨(World.ownsRow.lt ho k hk).1, by omega⟩
/-- what Of comes to -/
def OfPost (w : World) (l : List Pc) (e : Ending) (w' : World) : Prop :=
  ∃ n k, OfIs l n k ∧ ((n ≠ 0 ∧ ∃ er, e = .returned (.tuple #[.pointer none, er]) ∧ One w' (w.heap.size ≤ ·) er n routeS k ∧ Below w.heap.size w w') ∨
    (n = 0 ∧ ∃ p : Nat, e = .returned (.tuple #[.pointer (some ⟨p, 0, none⟩), .nilIface]) ∧ NewRt w w' p l))

set_option maxRecDepth 100000 in
set_option maxHeartbeats 4000000 in
theorem rqOf_any (w : World) (A : Nat → Prop) (v : Value) (l : List Pc) (hv : PcsIn w A v l) (hl : l.length ≤ maxLen) :
    Calls Tryz.prog 20 #[v] w (OfPost w l) := by
  have HV := hideIt (hv.mono (A' := (· < w.heap.size)) (fun _ _ h => h))
  obtain ⟨a, cap, rfl⟩ := hv.form
  clear hv
  unfold maxLen at hl
  by_cases h0 : l.length = 0
  · have hnil : l = [] := List.eq_nil_of_length_eq_zero h0
    subst hnil
    go_enter Tryz.func20, Tryz.ntmps20
    go_wp2_with fail
    refine (rqwrong_any w 1 0 (by decide)).mono ?_
    rintro e w9 ⟨er, rfl, ho, hb9⟩
    have HO := hideIt (And.intro ho hb9)
    obtain ⟨ty, y, rfl⟩ := ho.iface
    clear ho hb9
    go_wp2
    refine bodyPost_ret (v := .tuple #[.pointer none, .iface ty y]) (by simp [results, Tryz.results20, go_sem]) rfl ?_
    exact ⟨1, 0, Or.inl ⟨rfl, rfl, rfl⟩, Or.inl ⟨by decide, _, rfl, HO.out.1, HO.out.2⟩⟩
  have hne : ((l.length : Int) == 0) = false := by simp only [beq_eq_false_iff_ne, ne_eq]; omega
  have hne2 : l ≠ [] := fun e => h0 (by rw [e]; rfl)
  have HNE := hideIt hne2
  clear hne2 h0
  by_cases h1 : (32 : Int) < (l.length : Int)
  · go_enter Tryz.func20, Tryz.ntmps20
    go_wp2_with fail
    refine (rqwrong_any w 71 l.length (by decide)).mono ?_
    rintro e w9 ⟨er, rfl, ho, hb9⟩
    have HO := hideIt (And.intro ho hb9)
    obtain ⟨ty, y, rfl⟩ := ho.iface
    clear ho hb9
    go_wp2
    refine bodyPost_ret (v := .tuple #[.pointer none, .iface ty y]) (by simp [results, Tryz.results20, go_sem]) rfl ?_
    exact ⟨71, l.length, Or.inr (Or.inl ⟨HNE.out, by omega, rfl, rfl⟩), Or.inl ⟨by decide, _, rfl, HO.out.1, HO.out.2⟩⟩
  · go_enter Tryz.func20, Tryz.ntmps20
    go_wp2
    go_loopw [17] (fun i wr => ∃ k : Nat, k ≤ l.length ∧ i = .int .i64 k ∧ Hid (FitPTo l k) ∧ Hid (Below w.heap.size w wr)) (fun i _ => l.length - (intOf i).toNat)
    case atStart => exact ⟨0, Nat.zero_le _, rfl, hideIt (fun j hj => by omega), Below.refl _ _⟩
    case round =>
      obtain ⟨k, hk, rfl, HR, HB⟩ := hrel
      have hsz := HB.out.size
      by_cases hlt : k < l.length
      · obtain ⟨x, hx⟩ : ∃ x, l[k]? = some x := ⟨l[k], by simp [hlt]⟩
        have HVr : Hid (PcsIn wr (· < w.heap.size) (.slice a l.length cap) l) := RowIn.kept HV.out (Kept.of_below HB.out (fun _ h _ => h))
        have HM := hideIt (rqmayBe_any wr _ _ l k x HVr.out hx (by omega))
        clear hx
        go_wp2_with fail
        refine HM.out.mono ?_
        rintro e w2 ⟨b, rfl, hb, hb2⟩
        have HB2 := hideIt (HB.out.trans (hb2.mono HB.out.size))
        have HBI := hideIt hb
        clear hb hb2 HM
        cases b with
        | false =>
          have HN : Hid (¬ MayAt l k) := hideIt (fun h => by have := HBI.out.2 h; cases this)
          go_wp2_with fail
          refine (rqwrong_any w2 1 k (by decide)).mono ?_
          rintro e w9 ⟨er, rfl, ho, hb9⟩
          have HO := hideIt (And.intro (ho.mono (A' := (w.heap.size ≤ ·)) (fun k hk _ => Nat.le_trans HB2.out.size hk)) (HB2.out.trans (hb9.mono HB2.out.size)))
          obtain ⟨ty, y, rfl⟩ := ho.iface
          clear ho hb9
          go_wp2
          refine bodyPost_ret (v := .tuple #[.pointer none, .iface ty y]) (by simp [results, Tryz.results20, go_sem]) rfl ?_
          exact ⟨1, k, Or.inr (Or.inr (Or.inl ⟨HNE.out, by omega, k, hlt, HR.out, HN.out, rfl, rfl⟩)), Or.inl ⟨by decide, _, rfl, HO.out.1, HO.out.2⟩⟩
        | true =>
          have HN : Hid (FitPTo l (k + 1)) := hideIt (fun j hj => by
            by_cases e : j = k
            · subst e; exact HBI.out.1 rfl
            · exact HR.out j (by omega))
          go_wp2
          exact ⟨⟨k + 1, by omega, by go_num, HN, HB2⟩, by simp [intOf]; omega⟩
      · have HFT : Hid (FitP l) := hideIt ⟨HNE.out, by omega, by have := HR.out; rw [show k = l.length by omega] at this; exact this⟩
        go_wp2_with fail
        refine (cloneP_any wr _ _ l (RowIn.kept HV.out (Kept.of_below HB.out (fun _ h _ => h))) (by omega)).mono ?_
        rintro e w2 ⟨z, rfl, ho, hb2⟩
        have H := hideIt (new_rt w w2 114 l z (own_mono ho hsz) (HB.out.trans (hb2.mono hsz)))
        obtain ⟨az, cz, rfl⟩ := own_form ho
        clear ho hb2
        go_wp2
        refine bodyPost_ret (v := .tuple #[.pointer (some ⟨w2.heap.size, 0, none⟩), .nilIface]) (by simp [results, Tryz.results20, go_sem]) rfl ?_
        exact ⟨0, 0, Or.inr (Or.inr (Or.inr ⟨HFT.out, rfl, rfl⟩)), Or.inr ⟨rfl, _, rfl, H.out⟩⟩

set_option maxRecDepth 100000 in
set_option maxHeartbeats 4000000 in
theorem rqPieces_any (w : World) (p : Nat) (A : Nat → Prop) (l : List Pc) (h : Rt w p A l) (hl : l.length ≤ 100000) :
    Calls Tryz.prog 61 #[.pointer (some ⟨p, 0, none⟩)] w fun e w' => ∃ z, e = .returned z ∧ w'.ownsRow w.heap.size 62 3 z l.length (pcsCells l) ∧ Below w.heap.size w w' := by
  obtain ⟨v, c0, _, hv, _⟩ := h
  have HC := hideIt (cloneP_any w A v l hv.1 hl)
  obtain ⟨a, cap, rfl⟩ := hv.1.form
  clear hv
  go_enter Tryz.func61, Tryz.ntmps61
  go_wp2_with fail
  refine HC.out.mono ?_
  rintro e w2 ⟨z, rfl, ho, hb2⟩
  have HO := hideIt (And.intro ho hb2)
  obtain ⟨az, cz, rfl⟩ := own_form ho
  clear ho hb2
  go_wp2
  go_ret
  exact ⟨_, rfl, HO.out.1, HO.out.2⟩

set_option maxRecDepth 100000 in
set_option maxHeartbeats 4000000 in
theorem rqOwner_any (w : World) (p : Nat) (A : Nat → Prop) (l : List Pc) (key : List UInt8) (h : Rt w p A l) (hlin : Lin l) (hl : l.length ≤ 100000) :
    Calls Tryz.prog 22 #[.pointer (some ⟨p, 0, none⟩), .string ⟨key.toArray⟩] w fun e w' => ∃ x : Pc, e = .returned (pcV x) ∧ OwnIs l key x ∧ Below w.heap.size w w' := by
  obtain ⟨W, hW, hwb, hws, z0, z1, z2⟩ := room3 w 62 (.string ⟨#[]⟩) (.int .i64 0) (.int .i64 0)
  have hzf := fun j => (show W.frozen? ⟨w.heap.size, j, none⟩ = false by rw [hW]; exact World.frozen?_alloc_at _ _ _ _ rfl)
  obtain ⟨v, c0, _, hv, _⟩ := h.next hwb
  have HC := hideIt (fun (W2 : World) (h2 : Below W.heap.size W W2) => rqholder_any W2 A v l key (RowIn.kept hv.1 (Kept.of_all h2)) hlin hl)
  have HV := hideIt hv.1
  obtain ⟨a, cap, rfl⟩ := hv.1.form
  have HB := hideIt hwb
  have HZ := hideIt (And.intro hzf (And.intro z0 (And.intro z1 z2)))
  have HC0 := hideIt c0
  clear hv h hwb z0 z1 z2 hzf hlin
  have hwl : w.heap.size < W.heap.size := by omega
  go_enter Tryz.func22, Tryz.ntmps22
  go_wp2_with fail
  rw [← hW]
  clear hW
  have HBD : Hid (Below W.heap.size W W.drew) := hideIt (Below.refl _ _).drew
  go_region_with (go_at_call 63
                  refine (HC.out _ HBD.out).mono ?_
                  rintro e w3 ⟨i, rfl, hh, hb3⟩
                  have hb := HBD.out.trans hb3
                  obtain ⟨x, hx⟩ : ∃ x, l[i]? = some x := ⟨l[i]'hh.1, by simp [hh.1]⟩
                  have HX := hideIt (show OwnIs l key x from ⟨i, hh, hx⟩)
                  have hil : (i : Int) < (l.length : Int) := by have := hh.1; omega
                  obtain ⟨b, off, rfl, _, e0, e1, e2⟩ := PcsIn.at (RowIn.kept HV.out (Kept.of_all hb)) hx
                  have hblk : w3.heap[w.heap.size]? = W.heap[w.heap.size]? := hb.block _ hwl
                  have y0 := (World.cell?_of_block (a := ⟨w.heap.size, 0, none⟩) hblk).trans HZ.out.2.1
                  have y1 := (World.cell?_of_block (a := ⟨w.heap.size, 1, none⟩) hblk).trans HZ.out.2.2.1
                  have y2 := (World.cell?_of_block (a := ⟨w.heap.size, 2, none⟩) hblk).trans HZ.out.2.2.2
                  have f0 := (World.frozen?_of_block (a := ⟨w.heap.size, 0, none⟩) hblk).trans (HZ.out.1 0)
                  have f1 := (World.frozen?_of_block (a := ⟨w.heap.size, 1, none⟩) hblk).trans (HZ.out.1 1)
                  have f2 := (World.frozen?_of_block (a := ⟨w.heap.size, 2, none⟩) hblk).trans (HZ.out.1 2)
                  have g0 := (hb.cell (lt_of_cell HC0.out)).trans HC0.out
                  have HPUT := hideIt (room3_put w3 w.heap.size _ _ _ (.string ⟨x.1.toArray⟩) (.int .i64 x.2.1) (.int .i64 x.2.2) ⟨y0, y1, y2⟩)
                  have HB3 := hideIt (HB.out.trans (hb.mono HB.out.size))
                  clear hh hx hblk hb hb3)
  all_goals
    go_wp2
    obtain ⟨⟨v0, v1, v2⟩, hgr⟩ := HPUT.out
    generalize ((w3.setCell ⟨w.heap.size, 0, none⟩ (.string ⟨x.1.toArray⟩)).setCell ⟨w.heap.size, 1, none⟩ (.int .i64 x.2.1)).setCell ⟨w.heap.size, 2, none⟩ (.int .i64 x.2.2) = W4 at v0 v1 v2 hgr ⊢
    refine bodyPost_ret (v := pcV x) (by simp [results, Tryz.results22, go_sem, v0, v1, v2, pcV]) rfl ?_
    exact ⟨x, rfl, HX.out, HB3.out.grown hgr HB3.out.size (fun k hk => by cases hk; exact Nat.le_refl _)⟩
end Go.Proofs.YtohlepbfjgehgaaGreatDoor
