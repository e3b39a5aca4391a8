/-
  What is proved here: reads and writes in memory; texts in memory; a list of texts, sorted, each once; over this program.
-/
import Derived.Test.YtohlepbfjgehgaaGreatDoorEJ
import Derived.Test.YtohlepbfjgehgaaGreatDoorShelf
import Derived.Sort.OwnSorted
import Derived.Sort.Walk0
import Derived.Lib.RowBridge
namespace Go.Proofs.YtohlepbfjgehgaaGreatDoor
open Go.RowKit Go.Extern.Stop Go.Stop Go.Extern Go.Sort

abbrev Rd := List UInt8 × Int
abbrev Wr := List UInt8 × List UInt8
def rdCells (x : Rd) : List Value := [.string ⟨x.1.toArray⟩, .int .i64 x.2]
def rdV (x : Rd) : Value := .agg #[.string ⟨x.1.toArray⟩, .int .i64 x.2]
def rdsCells (l : List Rd) : List Value := l.flatMap rdCells
theorem rdsCells_len (l : List Rd) : (rdsCells l).length = l.length * 2 := by
  induction l with
  | nil => rfl
  | cons x r ih => simp only [rdsCells, List.flatMap_cons, List.length_append] at ih ⊢; rw [ih]; simp [rdCells]; omega
theorem rdsCells_at {l : List Rd} {k : Nat} {e : Rd} (h : l[k]? = some e) : (rdsCells l)[k * 2]? = some (.string ⟨e.1.toArray⟩) ∧ (rdsCells l)[k * 2 + 1]? = some (.int .i64 e.2) := by
  induction l generalizing k with
  | nil => simp at h
  | cons x r ih =>
    cases k with
    | zero => simp at h; subst h; exact ⟨rfl, rfl⟩
    | succ k =>
      have := ih (k := k) (by simpa using h)
      have e1 : ∀ j, (rdsCells (x :: r))[(k + 1) * 2 + j]? = (rdsCells r)[k * 2 + j]? := fun j => by
        show (rdCells x ++ rdsCells r)[(k + 1) * 2 + j]? = _
        rw [List.getElem?_append_right (by simp [rdCells]; omega)]
        congr 1; simp [rdCells]; omega
      exact ⟨by rw [show (k + 1) * 2 = (k + 1) * 2 + 0 by omega, e1]; exact this.1, by rw [e1]; exact this.2⟩
theorem rdsCells_append (l r : List Rd) : rdsCells (l ++ r) = rdsCells l ++ rdsCells r := List.flatMap_append ..
theorem rdsCells_one (l : List Rd) : ∀ u ∈ rdsCells l, u.oneCell' = true := by
  intro u hu
  obtain ⟨x, _, hx⟩ := List.mem_flatMap.1 hu
  simp [rdCells] at hx
  rcases hx with rfl | rfl <;> rfl
def RdsIn (w : World) (A : Nat → Prop) (v : Value) (l : List Rd) : Prop := RowIn w A v l.length (rdsCells l)
theorem RdsIn.form {w : World} {A : Nat → Prop} {v : Value} {l : List Rd} (h : RdsIn w A v l) : ∃ a cap, v = .slice a l.length cap := by
  obtain ⟨a, cap, h1, _⟩ := h
  exact ⟨a, cap, h1⟩
theorem RdsIn.at {w : World} {A : Nat → Prop} {a : Option Addr} {n cap : Nat} {l : List Rd} (h : RdsIn w A (.slice a n cap) l) {k : Nat} {e : Rd} (hs : l[k]? = some e) :
    ∃ b off, a = some ⟨b, off, none⟩ ∧ A b ∧ w.cell? ⟨b, off + k * 2, none⟩ = some (.string ⟨e.1.toArray⟩) ∧ w.cell? ⟨b, off + k * 2 + 1, none⟩ = some (.int .i64 e.2) := by
  obtain ⟨a', cap', e1, _, h2⟩ := h
  simp only [Value.slice.injEq] at e1
  obtain ⟨rfl, _, rfl⟩ := e1
  obtain ⟨c0, c1⟩ := rdsCells_at hs
  obtain ⟨b, off, r1, r2, r3⟩ := h2 _ _ c0
  obtain ⟨b', off', s1, s2, s3⟩ := h2 _ _ c1
  rw [r1] at s1
  cases s1
  exact ⟨b, off, r1, r2, r3, by rw [Nat.add_assoc]; exact s3⟩
theorem infoRd : (Tryz.prog.info? 54).map (fun i => (i.zero, i.size, i.bytes)) = some (some (.agg #[.string ⟨#[]⟩, .int .i64 0]), 2, 24) := by kernel_rfl
/-- a list of one, made -/
theorem lit_rd (u : World) (e : Rd) : ∃ U, U = u.alloc (.cells #[.string ⟨e.1.toArray⟩, .int .i64 e.2] 54) ∧ Below u.heap.size u U ∧ U.heap.size = u.heap.size + 1 ∧ U.ownsRow u.heap.size 54 2 (.slice (some ⟨u.heap.size, 0, none⟩) 1 1) 1 (rdsCells [e]) :=
  ⟨_, rfl, (Below.refl _ _).alloc (Nat.le_refl _) _, by simp, rfl, Or.inr ⟨u.heap.size, 1, #[.string ⟨e.1.toArray⟩, .int .i64 e.2], rfl, Nat.le_refl _, heap_alloc_new u _, Nat.le_refl _, by decide, rfl, rfl⟩⟩
def wrCells (x : Wr) : List Value := [.string ⟨x.1.toArray⟩, .string ⟨(x.2).toArray⟩]
def wrV (x : Wr) : Value := .agg #[.string ⟨x.1.toArray⟩, .string ⟨(x.2).toArray⟩]
def wrsCells (l : List Wr) : List Value := l.flatMap wrCells
theorem wrsCells_len (l : List Wr) : (wrsCells l).length = l.length * 2 := by
  induction l with
  | nil => rfl
  | cons x r ih => simp only [wrsCells, List.flatMap_cons, List.length_append] at ih ⊢; rw [ih]; simp [wrCells]; omega
theorem wrsCells_at {l : List Wr} {k : Nat} {e : Wr} (h : l[k]? = some e) : (wrsCells l)[k * 2]? = some (.string ⟨e.1.toArray⟩) ∧ (wrsCells l)[k * 2 + 1]? = some (.string ⟨(e.2).toArray⟩) := by
  induction l generalizing k with
  | nil => simp at h
  | cons x r ih =>
    cases k with
    | zero => simp at h; subst h; exact ⟨rfl, rfl⟩
    | succ k =>
      have := ih (k := k) (by simpa using h)
      have e1 : ∀ j, (wrsCells (x :: r))[(k + 1) * 2 + j]? = (wrsCells r)[k * 2 + j]? := fun j => by
        show (wrCells x ++ wrsCells r)[(k + 1) * 2 + j]? = _
        rw [List.getElem?_append_right (by simp [wrCells]; omega)]
        congr 1; simp [wrCells]; omega
      exact ⟨by rw [show (k + 1) * 2 = (k + 1) * 2 + 0 by omega, e1]; exact this.1, by rw [e1]; exact this.2⟩
theorem wrsCells_append (l r : List Wr) : wrsCells (l ++ r) = wrsCells l ++ wrsCells r := List.flatMap_append ..
theorem wrsCells_one (l : List Wr) : ∀ u ∈ wrsCells l, u.oneCell' = true := by
  intro u hu
  obtain ⟨x, _, hx⟩ := List.mem_flatMap.1 hu
  simp [wrCells] at hx
  rcases hx with rfl | rfl <;> rfl
def WrsIn (w : World) (A : Nat → Prop) (v : Value) (l : List Wr) : Prop := RowIn w A v l.length (wrsCells l)
theorem WrsIn.form {w : World} {A : Nat → Prop} {v : Value} {l : List Wr} (h : WrsIn w A v l) : ∃ a cap, v = .slice a l.length cap := by
  obtain ⟨a, cap, h1, _⟩ := h
  exact ⟨a, cap, h1⟩
theorem WrsIn.at {w : World} {A : Nat → Prop} {a : Option Addr} {n cap : Nat} {l : List Wr} (h : WrsIn w A (.slice a n cap) l) {k : Nat} {e : Wr} (hs : l[k]? = some e) :
    ∃ b off, a = some ⟨b, off, none⟩ ∧ A b ∧ w.cell? ⟨b, off + k * 2, none⟩ = some (.string ⟨e.1.toArray⟩) ∧ w.cell? ⟨b, off + k * 2 + 1, none⟩ = some (.string ⟨(e.2).toArray⟩) := by
  obtain ⟨a', cap', e1, _, h2⟩ := h
  simp only [Value.slice.injEq] at e1
  obtain ⟨rfl, _, rfl⟩ := e1
  obtain ⟨c0, c1⟩ := wrsCells_at hs
  obtain ⟨b, off, r1, r2, r3⟩ := h2 _ _ c0
  obtain ⟨b', off', s1, s2, s3⟩ := h2 _ _ c1
  rw [r1] at s1
  cases s1
  exact ⟨b, off, r1, r2, r3, by rw [Nat.add_assoc]; exact s3⟩
theorem infoWr : (Tryz.prog.info? 48).map (fun i => (i.zero, i.size, i.bytes)) = some (some (.agg #[.string ⟨#[]⟩, .string ⟨#[]⟩]), 2, 32) := by kernel_rfl
/-- a list of one, made -/
theorem lit_wr (u : World) (e : Wr) : ∃ U, U = u.alloc (.cells #[.string ⟨e.1.toArray⟩, .string ⟨(e.2).toArray⟩] 48) ∧ Below u.heap.size u U ∧ U.heap.size = u.heap.size + 1 ∧ U.ownsRow u.heap.size 48 2 (.slice (some ⟨u.heap.size, 0, none⟩) 1 1) 1 (wrsCells [e]) :=
  ⟨_, rfl, (Below.refl _ _).alloc (Nat.le_refl _) _, by simp, rfl, Or.inr ⟨u.heap.size, 1, #[.string ⟨e.1.toArray⟩, .string ⟨(e.2).toArray⟩], rfl, Nat.le_refl _, heap_alloc_new u _, Nat.le_refl _, by decide, rfl, rfl⟩⟩
/-- a room of two cells -/
theorem room2 (w : World) (t : TypeId) (x y : Value) : ∃ W, W = w.alloc (.cells #[x, y] t) ∧ Below w.heap.size w W ∧ W.heap.size = w.heap.size + 1 ∧ W.cell? ⟨w.heap.size, 0, none⟩ = some x ∧ W.cell? ⟨w.heap.size, 1, none⟩ = some y :=
  ⟨_, rfl, (Below.refl _ _).alloc (Nat.le_refl _) _, by simp, by rw [World.cell?_alloc_at _ _ _ _ rfl]; rfl, by rw [World.cell?_alloc_at _ _ _ _ rfl]; rfl⟩
/-- a room of four cells -/
theorem room4t (w : World) (t : TypeId) (x y z u : Value) : ∃ W, W = w.alloc (.cells #[x, y, z, u] t) ∧ Below w.heap.size w W ∧ W.heap.size = w.heap.size + 1 ∧ W.cell? ⟨w.heap.size, 0, none⟩ = some x ∧ W.cell? ⟨w.heap.size, 1, none⟩ = some y ∧ W.cell? ⟨w.heap.size, 2, none⟩ = some z ∧ W.cell? ⟨w.heap.size, 3, none⟩ = some u :=
  ⟨_, rfl, (Below.refl _ _).alloc (Nat.le_refl _) _, by simp, by rw [World.cell?_alloc_at _ _ _ _ rfl]; rfl, by rw [World.cell?_alloc_at _ _ _ _ rfl]; rfl, by rw [World.cell?_alloc_at _ _ _ _ rfl]; rfl, by rw [World.cell?_alloc_at _ _ _ _ rfl]; rfl⟩

/-- texts in memory -/
def keyCells (T : List (List UInt8)) : List Value := T.map encStr
def SIn (w : World) (A : Nat → Prop) (v : Value) (T : List (List UInt8)) : Prop := RowIn w A v T.length (keyCells T)
theorem SIn.form {w : World} {A : Nat → Prop} {v : Value} {T : List (List UInt8)} (h : SIn w A v T) : ∃ a cap, v = .slice a T.length cap := by
  obtain ⟨a, cap, h1, _⟩ := h
  exact ⟨a, cap, h1⟩
theorem SIn.at {w : World} {A : Nat → Prop} {a : Option Addr} {n cap : Nat} {l : List (List UInt8)} (h : SIn w A (.slice a n cap) l) {k : Nat} {s : List UInt8} (hs : l[k]? = some s) : ∃ b off, a = some ⟨b, off, none⟩ ∧ A b ∧ w.cell? ⟨b, off + k, none⟩ = some (.string ⟨s.toArray⟩) := by
  obtain ⟨a', cap', e1, _, h2⟩ := h
  simp only [Value.slice.injEq] at e1
  obtain ⟨rfl, _, rfl⟩ := e1
  exact h2 k _ (by simp [keyCells, hs, encStr])
theorem keyCells_one (T : List (List UInt8)) : ∀ u ∈ keyCells T, u.oneCell' = true := by
  intro u hu; simp [keyCells] at hu; obtain ⟨x, _, rfl⟩ := hu; rfl
theorem infoStr : (Tryz.prog.info? 9).map (fun i => (i.zero, i.size, i.bytes)) = some (some (.string ⟨#[]⟩), 1, 16) := by kernel_rfl
/-- append of texts, whatever they are, onto texts that are owned -/
theorem append_strs {P : Program} (w : World) (base : Nat) (t ty e : TypeId) (i : TypeInfo) (z : Value) (ht : P.underlying t = some (.slice e)) (hi : P.info? e = some i) (hz : i.zero = some z)
    (hsize : i.size = 1) (hby : i.bytes = 16) (hzs : z.cells.size = 1)
    (v : Value) (n : Nat) (xs : List Value) (hown : w.ownsRow base e 1 v n xs) (A : Nat → Prop) (xv : Value) (l : List (List UInt8)) (hx : SIn w A xv l) (h63 : (n + l.length) * 16 ≤ 140737488355328) (hbase : base ≤ w.heap.size) :
    ∃ v' w', (Builtin.append_ #[t, t] ty #[v, xv]).run P w = .ok v' w' ∧ w'.ownsRow base e 1 v' (n + l.length) (xs ++ keyCells l) ∧ w.grownBy w' v.ownBlock ∧ (v'.ownBlock = v.ownBlock ∨ v'.ownBlock = some w.heap.size) := by
  have hx2 := hx
  obtain ⟨a, cap, rfl, hnil, _⟩ := hx2
  cases a with
  | none =>
    obtain ⟨rfl, hl, _⟩ := hnil rfl
    have hl2 : l = [] := List.eq_nil_of_length_eq_zero hl
    subst hl2
    exact ⟨v, w, run_append_owned_none (P := P) (w := w) base t ty e i 1 ht hi v n xs hown, by simpa [keyCells] using hown, ⟨rfl, rfl, rfl, Nat.le_refl _, fun _ _ _ => rfl⟩, Or.inl rfl⟩
  | some ad =>
    obtain ⟨v', w', h1, h2, h3, _, h4⟩ := run_append_own_at (P := P) w base t ty e i z 1 16 ht hi hz hsize hby hzs (by decide) v n xs hown ad l.length cap (keyCells l) (by simp [keyCells]) (RowIn.cells hx) (keyCells_one l) (by unfold maxLen; omega) (by omega) hbase
    exact ⟨v', w', h1, h2, h3, h4⟩

/-- the same, as one step of a region that draws -/
theorem step_append_strs {P : Program} {ops : Array Oper} {o : Oper} {a : Act} {w : World} {K : Act → World → Prop} {Q : Exit → Act → World → Prop} {E : Prop} (hgd : o.guard = none) (s x : Operand) (t : TypeId)
    (ho : o.op = .call { callee := .builtin .append, args := #[s, x], argTypes := #[t, t] })
    (base : Nat) (e : TypeId) (i : TypeInfo) (z : Value) (ht : P.underlying t = some (.slice e)) (hi : P.info? e = some i) (hz : i.zero = some z)
    (hsize : i.size = 1) (hby : i.bytes = 16) (hzs : z.cells.size = 1)
    (v : Value) (n : Nat) (xs : List Value) (hs : a.eval s = v) (hown : w.ownsRow base e 1 v n xs) (A : Nat → Prop) (xv : Value) (l : List (List UInt8)) (hx : a.eval x = xv) (hxv : SIn w A xv l) (h63 : (n + l.length) * 16 ≤ 140737488355328) (hbase : base ≤ w.heap.size)
    (h : ∀ v' w', w'.ownsRow base e 1 v' (n + l.length) (xs ++ keyCells l) → w.grownBy w' v.ownBlock → (v'.ownBlock = v.ownBlock ∨ v'.ownBlock = some w.heap.size) → K (a.put o.dst v') w') :
    if Region.wanted o (yielded ops a.tmps) = true then Oper.wp P o a w K Q else E := by
  have hw : Region.wanted o (yielded ops a.tmps) = true := by simp [Region.wanted, hgd]
  rw [if_pos hw]
  obtain ⟨v', w', hr, h2, h3, h5⟩ := append_strs (P := P) w base t o.type e i z ht hi hz hsize hby hzs v n xs hown A xv l hxv h63 hbase
  unfold Oper.wp execOp
  simp only [ho, resolve, invoke, builtin, Sem.run_bind, Sem.run_pure, Result.andThen_ok, List.map_toArray, List.map_cons, List.map_nil, hs, hx, hr]
  exact h v' w' h2 h3 h5

/-! ### sorted, each once -/
theorem kLt_iff2 (a b : List UInt8) : kLt a b ↔ a < b := by unfold kLt; rw [bytesLess_eq]; simp
theorem kle_iff (a b : List UInt8) : (decide (a ≤ b) = true) ↔ ¬ kLt b a := by
  rw [kLt_iff2]; simp
theorem nlt_trans {a b c : List UInt8} (h : ¬ kLt b a) (h2 : ¬ kLt c b) : ¬ kLt c a := fun h3 => by
  by_cases e : b = c
  · subst e; exact h h3
  · rcases kLt_total e with h4 | h4
    · exact h (kLt_trans h4 h3)
    · exact h2 h4
theorem nlt_lt {a b c : List UInt8} (h : ¬ kLt b a) (h2 : kLt b c) : kLt a c := by
  by_cases e : a = b
  · subst e; exact h2
  · rcases kLt_total e with h3 | h3
    · exact kLt_trans h3 h2
    · exact absurd h3 h
theorem nlt_eq {a b : List UInt8} (h : ¬ kLt a b) (h2 : ¬ kLt b a) : a = b := by
  by_cases e : a = b
  · exact e
  · rcases kLt_total e with h3 | h3
    · exact absurd h3 h
    · exact absurd h3 h2
def leS (x y : List UInt8) : Bool := decide (x ≤ y)
def risen (T : List (List UInt8)) : List (List UInt8) := Lib.compact (T.mergeSort fun x y => decide (x ≤ y))
section
variable {α : Type} [Inhabited α] [DecidableEq α]
theorem upTo_mem (d : Array α) (m : Nat) (a : α) : a ∈ Lib.compactUpTo d m ↔ ∃ j, j < m ∧ d[j]! = a := by
  induction m with
  | zero => simp [Lib.compactUpTo]
  | succ m ih =>
    rw [Lib.compactUpTo_succ, List.mem_append, ih]
    constructor
    · rintro (⟨j, hj, e⟩ | h)
      · exact ⟨j, by omega, e⟩
      · split at h
        · simp at h; exact ⟨m, by omega, h.symm⟩
        · cases h
    · rintro ⟨j, hj, e⟩
      by_cases hjm : j < m
      · exact Or.inl ⟨j, hjm, e⟩
      · have : j = m := by omega
        subst this
        by_cases hk : Lib.keeps d j = true
        · rw [if_pos hk]; exact Or.inr (by simp [e])
        · left
          simp only [Lib.keeps, decide_eq_true_eq, not_or, ne_eq, Decidable.not_not] at hk
          exact ⟨j - 1, by omega, by rw [← hk.2]; exact e⟩
theorem upTo_rise (lt : α → α → Prop) (d : Array α) (hs : ∀ i j, i < j → j < d.size → ¬ lt d[j]! d[i]!) (tr : ∀ a b c, ¬ lt b a → lt b c → lt a c) (tot : ∀ a b, a ≠ b → ¬ lt b a → lt a b) (m : Nat) (hm : m ≤ d.size) :
    (Lib.compactUpTo d m).Pairwise lt := by
  induction m with
  | zero => simp [Lib.compactUpTo]
  | succ m ih =>
    rw [Lib.compactUpTo_succ]
    refine List.pairwise_append.2 ⟨ih (by omega), by split <;> simp, fun a ha b hb => ?_⟩
    split at hb
    · rename_i hk
      simp at hb
      subst hb
      obtain ⟨j, hj, rfl⟩ := (upTo_mem d m a).1 ha
      simp only [Lib.keeps, decide_eq_true_eq, ne_eq] at hk
      rcases hk with hk | hk
      · omega
      · have h1 : lt d[m - 1]! d[m]! := tot _ _ (fun e => hk e.symm) (hs (m - 1) m (by omega) (by omega))
        by_cases e : j = m - 1
        · subst e; exact h1
        · exact tr _ _ _ (hs j (m - 1) (by omega) (by omega)) h1
    · cases hb
theorem compact_mem (l : List α) (a : α) : a ∈ Lib.compact l ↔ a ∈ l := by
  unfold Lib.compact
  rw [upTo_mem]
  constructor
  · rintro ⟨j, hj, rfl⟩
    simp [hj]
  · intro h
    obtain ⟨j, hj, e⟩ := List.mem_iff_getElem.1 h
    exact ⟨j, hj, by simp [hj, e]⟩
end
theorem risen_mem (T : List (List UInt8)) (k : List UInt8) : k ∈ risen T ↔ k ∈ T := by
  unfold risen
  rw [compact_mem, List.mem_mergeSort]
theorem risen_rise (T : List (List UInt8)) : (risen T).Pairwise kLt := by
  unfold risen Lib.compact
  have hp : (T.mergeSort fun x y => decide (x ≤ y)).Pairwise (fun a b => decide (a ≤ b) = true) := List.pairwise_mergeSort (le := fun x y : List UInt8 => decide (x ≤ y)) (fun a b c h1 h2 => (kle_iff _ _).2 (nlt_trans ((kle_iff _ _).1 h1) ((kle_iff _ _).1 h2))) (fun a b => by
    rw [Bool.or_eq_true, kle_iff, kle_iff]
    by_cases h : kLt b a
    · exact Or.inr (kLt_asymm h)
    · exact Or.inl h) T
  refine upTo_rise kLt _ (fun i j hij hj => ?_) (fun a b c => nlt_lt) (fun a b h1 h2 => (kLt_total h1).resolve_right h2) _ (by simp)
  have hj' : j < (T.mergeSort fun x y => decide (x ≤ y)).length := by simpa using hj
  have := (List.pairwise_iff_getElem.1 hp) i j (by omega) hj' hij
  rw [kle_iff] at this
  simpa [show i < T.length by simp at hj'; omega, show j < T.length by simpa using hj'] using this
theorem risen_len (T : List (List UInt8)) : (risen T).length ≤ T.length := by
  have := Lib.compact_length_le (T.mergeSort fun x y => decide (x ≤ y))
  unfold risen
  simpa using this
/-- two that rise and hold the same are the same -/
theorem rise_ext {α : Type} {lt : α → α → Prop} (irr : ∀ a, ¬ lt a a) (asy : ∀ a b, lt a b → ¬ lt b a) : ∀ {a b : List α}, a.Pairwise lt → b.Pairwise lt → (∀ s, s ∈ a ↔ s ∈ b) → a = b
  | [], [], _, _, _ => rfl
  | [], y :: b, _, _, h => absurd ((h y).2 (by simp)) (by simp)
  | x :: a, [], _, _, h => absurd ((h x).1 (by simp)) (by simp)
  | x :: a, y :: b, ha, hb, h => by
    obtain ⟨a1, a2⟩ := List.pairwise_cons.1 ha
    obtain ⟨b1, b2⟩ := List.pairwise_cons.1 hb
    have e : x = y := by
      rcases List.mem_cons.1 ((h x).1 (by simp)) with e | hx
      · exact e
      · rcases List.mem_cons.1 ((h y).2 (by simp)) with e | hy
        · exact e.symm
        · exact absurd (a1 _ hy) (asy _ _ (b1 _ hx))
    subst e
    congr 1
    refine rise_ext irr asy a2 b2 fun s => ⟨fun hs => ?_, fun hs => ?_⟩
    · rcases List.mem_cons.1 ((h s).1 (by simp [hs])) with e | h'
      · subst e; exact absurd (a1 _ hs) (irr _)
      · exact h'
    · rcases List.mem_cons.1 ((h s).2 (by simp [hs])) with e | h'
      · subst e; exact absurd (b1 _ hs) (irr _)
      · exact h'
end Go.Proofs.YtohlepbfjgehgaaGreatDoor
