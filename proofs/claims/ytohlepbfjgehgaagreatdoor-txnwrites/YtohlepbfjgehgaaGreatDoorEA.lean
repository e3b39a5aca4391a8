/-
  What is proved here: entries in memory; how keys are ordered; append of entries; clones and equality of entries; over this program.
-/
import Derived.Test.YtohlepbfjgehgaaGreatDoorStep
import Derived.Test.YtohlepbfjgehgaaGreatDoorTurn
import Derived.Test.YtohlepbfjgehgaaGreatDoorMem
import Derived.Lib.ConvBytes
import Derived.WalkLawsBesides
namespace Go.Proofs.YtohlepbfjgehgaaGreatDoor
open Go.RowKit Go.Extern.Stop Go.Stop Go.Extern

/-- an entry: its key's and its value's bytes, its version -/
abbrev Ent := List UInt8 × List UInt8 × Int
def entCells (e : Ent) : List Value := [.string ⟨e.1.toArray⟩, .string ⟨e.2.1.toArray⟩, .int .i64 e.2.2]
def entV (e : Ent) : Value := .agg #[.string ⟨e.1.toArray⟩, .string ⟨e.2.1.toArray⟩, .int .i64 e.2.2]
def entsCells (l : List Ent) : List Value := l.flatMap entCells
theorem entsCells_len (l : List Ent) : (entsCells l).length = l.length * 3 := by
  induction l with
  | nil => rfl
  | cons x r ih => simp only [entsCells, List.flatMap_cons, List.length_append] at ih ⊢; rw [ih]; simp [entCells]; omega
theorem entsCells_at {l : List Ent} {k : Nat} {e : Ent} (h : l[k]? = some e) : (entsCells l)[k * 3]? = some (.string ⟨e.1.toArray⟩) ∧ (entsCells l)[k * 3 + 1]? = some (.string ⟨e.2.1.toArray⟩) ∧ (entsCells l)[k * 3 + 2]? = some (.int .i64 e.2.2) := by
  induction l generalizing k with
  | nil => simp at h
  | cons x r ih =>
    cases k with
    | zero => simp at h; subst h; exact ⟨rfl, rfl, rfl⟩
    | succ k =>
      have := ih (k := k) (by simpa using h)
      have e1 : ∀ j, (entsCells (x :: r))[(k + 1) * 3 + j]? = (entsCells r)[k * 3 + j]? := fun j => by
        show (entCells x ++ entsCells r)[(k + 1) * 3 + j]? = _
        rw [List.getElem?_append_right (by simp [entCells]; omega)]
        congr 1; simp [entCells]; omega
      exact ⟨by rw [show (k + 1) * 3 = (k + 1) * 3 + 0 by omega, e1]; exact this.1, by rw [e1]; exact this.2.1, by rw [e1]; exact this.2.2⟩
theorem entsCells_append (l r : List Ent) : entsCells (l ++ r) = entsCells l ++ entsCells r := List.flatMap_append ..
theorem entsCells_one (l : List Ent) : ∀ u ∈ entsCells l, u.oneCell' = true := by
  intro u hu
  obtain ⟨x, _, hx⟩ := List.mem_flatMap.1 hu
  simp [entCells] at hx
  rcases hx with rfl | rfl | rfl <;> rfl
/-- a slice of entries -/
def EntsIn (w : World) (A : Nat → Prop) (v : Value) (l : List Ent) : Prop := RowIn w A v l.length (entsCells l)
theorem EntsIn.form {w : World} {A : Nat → Prop} {v : Value} {l : List Ent} (h : EntsIn w A v l) : ∃ a cap, v = .slice a l.length cap := by
  obtain ⟨a, cap, h1, _⟩ := h
  exact ⟨a, cap, h1⟩
theorem EntsIn.at {w : World} {A : Nat → Prop} {a : Option Addr} {n cap : Nat} {l : List Ent} (h : EntsIn w A (.slice a n cap) l) {k : Nat} {e : Ent} (hs : l[k]? = some e) :
    ∃ b off, a = some ⟨b, off, none⟩ ∧ A b ∧ w.cell? ⟨b, off + k * 3, none⟩ = some (.string ⟨e.1.toArray⟩) ∧ w.cell? ⟨b, off + k * 3 + 1, none⟩ = some (.string ⟨e.2.1.toArray⟩) ∧ w.cell? ⟨b, off + k * 3 + 2, none⟩ = some (.int .i64 e.2.2) := by
  obtain ⟨a', cap', e1, _, h2⟩ := h
  simp only [Value.slice.injEq] at e1
  obtain ⟨rfl, _, rfl⟩ := e1
  obtain ⟨c0, c1, c2⟩ := entsCells_at hs
  obtain ⟨b, off, r1, r2, r3⟩ := h2 _ _ c0
  obtain ⟨b', off', s1, s2, s3⟩ := h2 _ _ c1
  obtain ⟨b'', off'', t1, t2, t3⟩ := h2 _ _ c2
  rw [r1] at s1 t1
  cases s1; cases t1
  exact ⟨b, off, r1, r2, r3, by rw [Nat.add_assoc]; exact s3, by rw [Nat.add_assoc]; exact t3⟩
/-- a room of three cells -/
theorem room3 (w : World) (t : TypeId) (x y z : Value) : ∃ W, W = w.alloc (.cells #[x, y, z] t) ∧ Below w.heap.size w W ∧ W.heap.size = w.heap.size + 1 ∧ W.cell? ⟨w.heap.size, 0, none⟩ = some x ∧ W.cell? ⟨w.heap.size, 1, none⟩ = some y ∧ W.cell? ⟨w.heap.size, 2, none⟩ = some z :=
  ⟨_, rfl, (Below.refl _ _).alloc (Nat.le_refl _) _, by simp, by rw [World.cell?_alloc_at _ _ _ _ rfl]; rfl, by rw [World.cell?_alloc_at _ _ _ _ rfl]; rfl, by rw [World.cell?_alloc_at _ _ _ _ rfl]; rfl⟩
/-- byte by byte, a is below b -/
def kLt (a b : List UInt8) : Prop := Op.bytesLess a b = true
theorem kLt_irrefl : ∀ a, ¬ kLt a a
  | [] => by simp [kLt, Op.bytesLess]
  | x :: a => by
    have := kLt_irrefl a
    simp [kLt, Op.bytesLess] at this ⊢
    exact this
theorem kLt_trans : ∀ {a b c}, kLt a b → kLt b c → kLt a c
  | [], [], _, h, _ => by simp [kLt, Op.bytesLess] at h
  | [], _ :: _, [], _, h => by simp [kLt, Op.bytesLess] at h
  | [], _ :: _, _ :: _, _, _ => by simp [kLt, Op.bytesLess]
  | _ :: _, [], _, h, _ => by simp [kLt, Op.bytesLess] at h
  | _ :: _, _ :: _, [], _, h => by simp [kLt, Op.bytesLess] at h
  | x :: a, y :: b, z :: c, h1, h2 => by
    simp only [kLt, Op.bytesLess, Bool.or_eq_true, decide_eq_true_eq, Bool.and_eq_true, beq_iff_eq] at h1 h2 ⊢
    rcases h1 with h1 | ⟨rfl, h1⟩
    · rcases h2 with h2 | ⟨rfl, h2⟩
      · exact Or.inl (UInt8.lt_trans h1 h2)
      · exact Or.inl h1
    · rcases h2 with h2 | ⟨rfl, h2⟩
      · exact Or.inl h2
      · exact Or.inr ⟨rfl, kLt_trans (a := a) (b := b) (c := c) h1 h2⟩
theorem kLt_total : ∀ {a b}, a ≠ b → kLt a b ∨ kLt b a
  | [], [], h => absurd rfl h
  | [], _ :: _, _ => Or.inl (by simp [kLt, Op.bytesLess])
  | _ :: _, [], _ => Or.inr (by simp [kLt, Op.bytesLess])
  | x :: a, y :: b, h => by
    simp only [kLt, Op.bytesLess, Bool.or_eq_true, decide_eq_true_eq, Bool.and_eq_true, beq_iff_eq]
    by_cases e : x = y
    · subst e
      have hne : a ≠ b := fun e => h (by rw [e])
      rcases kLt_total hne with h1 | h1
      · exact Or.inl (Or.inr ⟨rfl, h1⟩)
      · exact Or.inr (Or.inr ⟨rfl, h1⟩)
    · rcases UInt8.lt_or_lt_of_ne e with h1 | h1
      · exact Or.inl (Or.inl h1)
      · exact Or.inr (Or.inl h1)
theorem kLt_asymm {a b : List UInt8} (h : kLt a b) : ¬ kLt b a := fun h2 => kLt_irrefl _ (kLt_trans h h2)
theorem leq_iff (a b : List UInt8) : (Op.bytesLess a b || a == b) = !(Op.bytesLess b a) := by
  by_cases h : kLt b a
  · have h1 : Op.bytesLess a b = false := by simpa [kLt] using kLt_asymm h
    have h2 : (a == b) = false := by
      simp only [beq_eq_false_iff_ne]
      rintro rfl; exact kLt_irrefl _ h
    rw [h1, h2, show Op.bytesLess b a = true from h]; rfl
  · have h1 : Op.bytesLess b a = false := by simpa [kLt] using h
    rw [h1]
    by_cases e : a = b
    · simp [e]
    · rcases kLt_total e with h2 | h2
      · rw [show Op.bytesLess a b = true from h2]; rfl
      · exact absurd h2 h
theorem infoEnt : (Tryz.prog.info? 42).map (fun i => (i.zero, i.size, i.bytes)) = some (some (.agg #[.string ⟨#[]⟩, .string ⟨#[]⟩, .int .i64 0]), 3, 40) := by kernel_rfl
set_option maxRecDepth 100000 in
set_option maxHeartbeats 8000000 in
theorem cloneE_any (w : World) (A : Nat → Prop) (v : Value) (l : List Ent) (hv : EntsIn w A v l) (hl : l.length ≤ 100000) :
    Calls Tryz.prog 49 #[v] w fun e w' => ∃ z, e = .returned z ∧ w'.ownsRow w.heap.size 42 3 z l.length (entsCells l) ∧ Below w.heap.size w w' := by
  have HV := hideIt hv
  obtain ⟨i0, hi, hi2⟩ := Option.map_eq_some_iff.1 infoEnt
  obtain ⟨hz0, hz1, hz2⟩ : i0.zero = some (.agg #[.string ⟨#[]⟩, .string ⟨#[]⟩, .int .i64 0]) ∧ i0.size = 3 ∧ i0.bytes = 40 := by
    simp only [Prod.mk.injEq] at hi2; exact hi2
  have HI := hideIt (And.intro hi (And.intro hz0 (And.intro hz1 hz2)))
  clear hi2 hi hz0 hz1 hz2
  have hen := fun (w : World) (a : Option Addr) (n c : Nat) => Lib.run_eql_slice_nil (P := Tryz.prog) w 38 42 a n c 0 0 Tryz.underlying38
  have hv2 := hv
  obtain ⟨a, cap, rfl, hnil, _⟩ := hv2
  clear hv
  cases a with
  | none =>
    obtain ⟨rfl, hl0, _⟩ := hnil rfl
    have hl1 : l = [] := List.eq_nil_of_length_eq_zero hl0
    subst hl1
    clear hnil
    go_enter Tryz.func49, Tryz.ntmps49
    go_wp2
    go_ret
    exact ⟨_, rfl, World.ownsRow_nil _ _ _ _, Below.refl _ _⟩
  | some ad =>
    clear hnil
    have hb0 : Below w.heap.size w (w.alloc (.cells #[] 42)) := (Below.refl _ _).alloc (Nat.le_refl _) _
    have HO : Hid ((w.alloc (.cells #[] 42)).ownsRow w.heap.size 42 3 (.slice (some ⟨w.heap.size, 0, none⟩) 0 0) 0 []) := hideIt ⟨rfl, Or.inr ⟨w.heap.size, 0, #[], rfl, Nat.le_refl _, heap_alloc_new w _, Nat.le_refl _, Nat.zero_le _, rfl, rfl⟩⟩
    have HB0 := hideIt hb0
    have HV0 : Hid (EntsIn (w.alloc (.cells #[] 42)) (· < w.heap.size) (.slice (some ad) l.length cap) l) := hideIt (RowIn.kept (RowIn.mono (A' := (· < w.heap.size)) HV.out (fun _ _ h => h)) (Kept.of_all hb0))
    clear hb0
    go_enter Tryz.func49, Tryz.ntmps49
    go_wp2_with (at_builtin; refine wpList_append_own_at _ rfl _ _ 38 rfl w.heap.size 42 i0 (.agg #[.string ⟨#[]⟩, .string ⟨#[]⟩, .int .i64 0]) 3 40 Tryz.underlying38 HI.out.1 HI.out.2.1 HI.out.2.2.1 HI.out.2.2.2 rfl (by decide) _ _ _ rfl HO.out ad l.length cap (entsCells l) rfl ?k0 ?k1 ?k2 ?k3 ?k4 ?k5 ?_)
    case k0 => exact entsCells_len l
    case k1 => exact RowIn.cells HV0.out
    case k2 => exact entsCells_one l
    case k3 => unfold maxLen; omega
    case k4 => omega
    case k5 => simp
    intro z w2 h1 h2 _ h3
    have HZ := hideIt (And.intro h1 (And.intro h2 h3))
    obtain ⟨az, capz, rfl⟩ := own_form h1
    clear h1 h2 h3
    go_wp2
    go_ret
    obtain ⟨h1, h2, h3⟩ := HZ.out
    refine ⟨_, rfl, by simpa using h1, ?_⟩
    exact HB0.out.grown h2 (by simp) (fun k hk => by cases hk; exact Nat.le_refl _)
theorem ent_ext (x y : Ent) : x = y ↔ x.1 = y.1 ∧ x.2.1 = y.2.1 ∧ x.2.2 = y.2.2 := by
  obtain ⟨a, b, c⟩ := x
  obtain ⟨a', b', c'⟩ := y
  simp
theorem eql_ent (x y : Ent) (w : World) : (Op.equalIn 10000 42 (.agg #[.string ⟨x.1.toArray⟩, .string ⟨x.2.1.toArray⟩, .int .i64 x.2.2]) (.agg #[.string ⟨y.1.toArray⟩, .string ⟨y.2.1.toArray⟩, .int .i64 y.2.2])).run Tryz.prog w = .ok (decide (x = y)) w := by
  have u3 := Tryz.underlying2
  have a3 := Tryz.isAgg2
  have z3 := Tryz.sizeOf2
  have u9 := Tryz.underlying9
  have a9 := Tryz.isAgg9
  have z9 := Tryz.sizeOf9
  have hS : Tryz.prog.underlying 42 = some (.struct (Tryz.prog.fieldsOf 42)) := by kernel_rfl
  have hp : Tryz.prog.stoodInHeld 42 = false := by kernel_rfl
  rw [show (10000 : Nat) = 9999 + 1 from rfl, run_equalIn_agg w 9999 42 _ _ hS hp]
  simp only [Program.fieldsOf, Tryz.underlying42]
  go_simp
  have e := ent_ext x y
  by_cases h1 : x.1 = y.1 <;> by_cases h2 : x.2.1 = y.2.1 <;> by_cases h3 : x.2.2 = y.2.2 <;> simp [h1, h2, h3, e]
theorem neq_ent (x y : Ent) (w : World) : (binOp .neq 42 (.agg #[.string ⟨x.1.toArray⟩, .string ⟨x.2.1.toArray⟩, .int .i64 x.2.2]) (.agg #[.string ⟨y.1.toArray⟩, .string ⟨y.2.1.toArray⟩, .int .i64 y.2.2])).run Tryz.prog w = .ok (.bool (!decide (x = y))) w := by
  rw [run_neq_struct, eql_ent]; simp [Result.andThen]
theorem eq_ent (x y : Ent) (w : World) : (binOp .eql 42 (.agg #[.string ⟨x.1.toArray⟩, .string ⟨x.2.1.toArray⟩, .int .i64 x.2.2]) (.agg #[.string ⟨y.1.toArray⟩, .string ⟨y.2.1.toArray⟩, .int .i64 y.2.2])).run Tryz.prog w = .ok (.bool (decide (x = y))) w := by
  rw [run_eql_struct, eql_ent]; simp [Result.andThen]
set_option maxRecDepth 100000 in
set_option maxHeartbeats 4000000 in
theorem Same06_any (A A2 : Nat → Prop) (va vb : Value) (a b : List Ent) (w : World) (ha : EntsIn w A va a) (hb : EntsIn w A2 vb b) (hl : a.length ≤ maxLen) :
    Calls Tryz.prog 23 #[va, vb] w fun e w' => e = .returned (.bool (decide (a = b))) ∧ Below w.heap.size w w' := by
  have HA := hideIt (ha.mono (A' := (· < w.heap.size)) (fun _ _ h => h))
  have HB := hideIt (hb.mono (A' := (· < w.heap.size)) (fun _ _ h => h))
  obtain ⟨aa, ca, rfl⟩ := ha.form
  obtain ⟨ab, cb, rfl⟩ := EntsIn.form hb
  unfold maxLen at hl
  clear ha hb
  by_cases hne : a.length = b.length
  · have HL := hideIt hne
    obtain ⟨n, hn⟩ : ∃ n, n = b.length := ⟨_, rfl⟩
    rw [← hn] at HB ⊢
    have HNB := hideIt hn
    have hna : n = a.length := by omega
    rw [hna] at HB ⊢
    clear hne hn hna
    go_enter Tryz.func23, Tryz.ntmps23
    go_wp2
    go_loopw [5] (fun i wr => ∃ k : Nat, k ≤ a.length ∧ i = .int .i64 k ∧ Hid (a.take k = b.take k) ∧ Hid (Below w.heap.size w wr)) (fun i _ => a.length - (intOf i).toNat)
    case atStart => exact ⟨0, Nat.zero_le _, rfl, rfl, Below.refl _ _⟩
    case round =>
      obtain ⟨k, hk, rfl, HT, HBW⟩ := hrel
      by_cases hlt : k < a.length
      · obtain ⟨x, hx⟩ : ∃ x, a[k]? = some x := ⟨a[k], by simp [hlt]⟩
        obtain ⟨y, hy⟩ : ∃ y, b[k]? = some y := ⟨b[k]'(by have := HL.out; omega), by simp⟩
        have HA2 : Hid (EntsIn wr (· < w.heap.size) (.slice aa a.length ca) a) := hideIt (RowIn.kept HA.out (Kept.of_below HBW.out (fun _ h _ => h)))
        have HB2 : Hid (EntsIn wr (· < w.heap.size) (.slice ab a.length cb) b) := hideIt (by rw [HL.out]; exact RowIn.kept (by have := HB.out; rw [HL.out] at this; exact this) (Kept.of_below HBW.out (fun _ h _ => h)))
        obtain ⟨b1, off1, rfl, _, c0, c1, c2⟩ := EntsIn.at HA2.out hx
        obtain ⟨b2, off2, rfl, _, d0, d1, d2⟩ := EntsIn.at HB2.out hy
        have HTT : Hid (∀ e, x = y → e = k + 1 → a.take e = b.take e) := hideIt (fun e h1 h2 => by
          subst h1 h2
          obtain ⟨hx1, hx2⟩ := List.getElem?_eq_some_iff.1 hx
          obtain ⟨hy1, hy2⟩ := List.getElem?_eq_some_iff.1 hy
          rw [List.take_succ_eq_append_getElem hx1, List.take_succ_eq_append_getElem hy1, HT.out, hx2, hy2])
        have HNN : Hid (x ≠ y → a ≠ b) := hideIt (fun h1 h2 => by subst h2; rw [hx] at hy; cases hy; exact h1 rfl)
        have hneq := fun w => neq_ent x y w
        clear hx hy
        by_cases hxy : x = y
        · rw [show decide (x = y) = true from decide_eq_true hxy] at hneq
          have HXY := hideIt hxy
          clear hxy
          go_wp2_with fail
          go_quiet (fail)
          have HB3 := hideIt (HBW.out.trans ((below_drewN wr nq).mono HBW.out.size))
          go_wp2
          exact ⟨⟨k + 1, by omega, by go_num, HTT.out (k + 1) HXY.out rfl, HB3.out⟩, by simp [intOf]; omega⟩
        · rw [show decide (x = y) = false from decide_eq_false hxy] at hneq
          have HXY : Hid (decide (a = b) = false) := hideIt (decide_eq_false (HNN.out hxy))
          clear hxy
          go_wp2_with fail
          go_quiet (fail)
          have HB3 := hideIt (HBW.out.trans ((below_drewN wr nq).mono HBW.out.size))
          go_wp2
          go_ret
          exact ⟨by rw [HXY.out]; rfl, HB3.out⟩
      · have HXY : Hid (decide (a = b) = true) := hideIt (decide_eq_true (by
          have h1 := HT.out
          rw [show k = a.length by omega, List.take_length] at h1
          rw [HL.out, List.take_length] at h1
          exact h1))
        go_wp2
        go_ret
        exact ⟨by rw [HXY.out]; rfl, HBW.out⟩
  · have HXY : Hid (decide (a = b) = false) := hideIt (decide_eq_false (fun h => hne (by rw [h])))
    have hnn : ((a.length : Int) == (b.length : Int)) = false := by simp only [beq_eq_false_iff_ne, ne_eq]; omega
    clear hne
    go_enter Tryz.func23, Tryz.ntmps23
    go_wp2
    go_ret
    exact ⟨by rw [HXY.out]; rfl, Below.refl _ _⟩
/-- append of entries, whatever they are, onto entries that are owned: what comes of it -/
theorem append_ents {P : Program} (w : World) (base : Nat) (t ty e : TypeId) (i : TypeInfo) (z : Value) (ht : P.underlying t = some (.slice e)) (hi : P.info? e = some i) (hz : i.zero = some z)
    (hsize : i.size = 3) (hby : i.bytes = 40) (hzs : z.cells.size = 3)
    (v : Value) (n : Nat) (xs : List Value) (hown : w.ownsRow base e 3 v n xs) (A : Nat → Prop) (xv : Value) (l : List Ent) (hx : EntsIn w A xv l) (h63 : (n + l.length) * 40 ≤ 140737488355328) (hbase : base ≤ w.heap.size) :
    ∃ v' w', (Builtin.append_ #[t, t] ty #[v, xv]).run P w = .ok v' w' ∧ w'.ownsRow base e 3 v' (n + l.length) (xs ++ entsCells l) ∧ w.grownBy w' v.ownBlock ∧ (v'.ownBlock = v.ownBlock ∨ v'.ownBlock = some w.heap.size) := by
  have hx2 := hx
  obtain ⟨a, cap, rfl, hnil, _⟩ := hx2
  cases a with
  | none =>
    obtain ⟨rfl, hl, _⟩ := hnil rfl
    have hl2 : l = [] := List.eq_nil_of_length_eq_zero hl
    subst hl2
    exact ⟨v, w, run_append_owned_none (P := P) (w := w) base t ty e i 3 ht hi v n xs hown, by simpa [entsCells] using hown, ⟨rfl, rfl, rfl, Nat.le_refl _, fun _ _ _ => rfl⟩, Or.inl rfl⟩
  | some ad =>
    obtain ⟨v', w', h1, h2, h3, _, h4⟩ := run_append_own_at (P := P) w base t ty e i z 3 40 ht hi hz hsize hby hzs (by decide) v n xs hown ad l.length cap (entsCells l) (entsCells_len l) (RowIn.cells hx) (entsCells_one l) (by unfold maxLen; omega) (by omega) hbase
    exact ⟨v', w', h1, h2, h3, h4⟩
/-- the same, at the operation of a plain walk -/
theorem wpList_append_ents {P : Program} {ops : Array Oper} {rest : List Oper} {o : Oper} {a : Act} {w : World} {Q : Exit → Act → World → Prop} (hgd : o.guard = none) (s x : Operand) (t : TypeId)
    (ho : o.op = .call { callee := .builtin .append, args := #[s, x], argTypes := #[t, t] })
    (base : Nat) (e : TypeId) (i : TypeInfo) (z : Value) (ht : P.underlying t = some (.slice e)) (hi : P.info? e = some i) (hz : i.zero = some z)
    (hsize : i.size = 3) (hby : i.bytes = 40) (hzs : z.cells.size = 3)
    (v : Value) (n : Nat) (xs : List Value) (hs : a.eval s = v) (hown : w.ownsRow base e 3 v n xs) (A : Nat → Prop) (xv : Value) (l : List Ent) (hx : a.eval x = xv) (hxv : EntsIn w A xv l) (h63 : (n + l.length) * 40 ≤ 140737488355328) (hbase : base ≤ w.heap.size)
    (h : ∀ v' w', w'.ownsRow base e 3 v' (n + l.length) (xs ++ entsCells l) → w.grownBy w' v.ownBlock → (v'.ownBlock = v.ownBlock ∨ v'.ownBlock = some w.heap.size) → wpList P ops Q rest (a.put o.dst v') w') :
    wpList P ops Q (o :: rest) a w := by
  refine wpList_plain hgd fun K hK => ?_
  obtain ⟨v', w', hr, h2, h3, h5⟩ := append_ents (P := P) w base t o.type e i z ht hi hz hsize hby hzs v n xs hown A xv l hxv h63 hbase
  unfold Oper.wp execOp
  simp only [ho, resolve, invoke, builtin, Sem.run_bind, Sem.run_pure, Result.andThen_ok, List.map_toArray, List.map_cons, List.map_nil, hs, hx, hr]
  exact hK _ _ (h v' w' h2 h3 h5)
/-- the same, as one step of a region that draws -/
theorem step_append_ents {P : Program} {ops : Array Oper} {o : Oper} {a : Act} {w : World} {K : Act → World → Prop} {Q : Exit → Act → World → Prop} {E : Prop} (hgd : o.guard = none) (s x : Operand) (t : TypeId)
    (ho : o.op = .call { callee := .builtin .append, args := #[s, x], argTypes := #[t, t] })
    (base : Nat) (e : TypeId) (i : TypeInfo) (z : Value) (ht : P.underlying t = some (.slice e)) (hi : P.info? e = some i) (hz : i.zero = some z)
    (hsize : i.size = 3) (hby : i.bytes = 40) (hzs : z.cells.size = 3)
    (v : Value) (n : Nat) (xs : List Value) (hs : a.eval s = v) (hown : w.ownsRow base e 3 v n xs) (A : Nat → Prop) (xv : Value) (l : List Ent) (hx : a.eval x = xv) (hxv : EntsIn w A xv l) (h63 : (n + l.length) * 40 ≤ 140737488355328) (hbase : base ≤ w.heap.size)
    (h : ∀ v' w', w'.ownsRow base e 3 v' (n + l.length) (xs ++ entsCells l) → w.grownBy w' v.ownBlock → (v'.ownBlock = v.ownBlock ∨ v'.ownBlock = some w.heap.size) → K (a.put o.dst v') w') :
    if Region.wanted o (yielded ops a.tmps) = true then Oper.wp P o a w K Q else E := by
  have hw : Region.wanted o (yielded ops a.tmps) = true := by simp [Region.wanted, hgd]
  rw [if_pos hw]
  obtain ⟨v', w', hr, h2, h3, h5⟩ := append_ents (P := P) w base t o.type e i z ht hi hz hsize hby hzs v n xs hown A xv l hxv h63 hbase
  unfold Oper.wp execOp
  simp only [ho, resolve, invoke, builtin, Sem.run_bind, Sem.run_pure, Result.andThen_ok, List.map_toArray, List.map_cons, List.map_nil, hs, hx, hr]
  exact h v' w' h2 h3 h5
/-- a list of one entry, made -/
theorem lit_one (u : World) (e : Ent) : ∃ U, U = u.alloc (.cells #[.string ⟨e.1.toArray⟩, .string ⟨e.2.1.toArray⟩, .int .i64 e.2.2] 42) ∧ Below u.heap.size u U ∧ U.heap.size = u.heap.size + 1 ∧ U.ownsRow u.heap.size 42 3 (.slice (some ⟨u.heap.size, 0, none⟩) 1 1) 1 (entsCells [e]) :=
  ⟨_, rfl, (Below.refl _ _).alloc (Nat.le_refl _) _, by simp, rfl, Or.inr ⟨u.heap.size, 1, #[.string ⟨e.1.toArray⟩, .string ⟨e.2.1.toArray⟩, .int .i64 e.2.2], rfl, Nat.le_refl _, heap_alloc_new u _, Nat.le_refl _, by decide, rfl, rfl⟩⟩
end Go.Proofs.YtohlepbfjgehgaaGreatDoor
