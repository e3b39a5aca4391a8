/-
  What is proved here: merkle's Root and Prove at any entries, and that what Root and Has find does not turn as texts come; over this program.
-/
import Derived.Test.YtmhbfplaglipnaaGreatDoorMX
import Derived.Test.YtmhbfplaglipnaaGreatDoorArg6
import Derived.Test.YtmhbfplaglipnaaGreatDoorStep
namespace Go.Proofs.YtmhbfplaglipnaaGreatDoor
open Go.RowKit Go.Extern.Stop Go.Stop Go.Extern

/-- what Root finds -/
def RootRes (T : List (List UInt8)) (l : List Ent) (d c : Int) : Prop := (Right l ∧ c = 0 ∧ RootIs T l d) ∨ (¬ Right l ∧ d = -1 ∧ c = 1)
theorem cost_le {l : List Ent} (h : Right l) : cost l.length + 1 ≤ 2048 := by have := h.1; unfold cost; split <;> omega
theorem mRoot_any (w : World) (p : Nat) (O : Nat → Prop) (T : List (List UInt8)) (v : Value) (l : List Ent) (h : Bk w p O T) (hv : EntsAp w O v l) (hl : l.length ≤ maxLen) (hf : ∀ e ∈ l, fits e.2.2) (hT : T.length + 2048 ≤ 65536) :
    Calls Tryz.prog 14 #[.pointer (some ⟨p, 0, none⟩), v] w fun e w' => ∃ (d : Int) (er : Value) (c : Int) (O' : Nat → Prop) (T' : List (List UInt8)), e = .returned (.tuple #[.int .i64 d, er]) ∧ Bk w' p O' T' ∧ Goes w O T w' O' T' 2048 ∧ ErrM w' (fun k => w.heap.size ≤ k ∧ ¬ O' k) er c ∧ RootRes T' l d c := by
  by_cases hr : Right l
  · have hc := cost_le hr
    refine (mRoot_ok w p O T v l h hv hf hr (by omega)).mono ?_
    rintro e w' ⟨d, O', T', rfl, g1, g2, g3, g4⟩
    exact ⟨d, _, 0, O', T', rfl, g1, g2.more hc, Or.inl ⟨rfl, rfl⟩, Or.inl ⟨hr, rfl, g3⟩⟩
  · refine (mRoot_bad w _ _ v l hv hl hr).mono ?_
    rintro e w' ⟨er, rfl, ho, hb⟩
    exact ⟨-1, er, 1, O, T, rfl, h.next hb, (Goes.of_below hb).more (by omega), Or.inr ⟨by decide, ho.mono (fun k hk _ => ⟨hk, fun o => by have := h.2 k o; omega⟩)⟩, Or.inr ⟨hr, rfl, rfl⟩⟩
/-- Prove, of places that there are -/
theorem mProve_any (w : World) (p : Nat) (O : Nat → Prop) (T : List (List UInt8)) (v : Value) (l : List Ent) (F m : Nat) (h : Bk w p O T) (hv : EntsAp w O v l) (hl : l.length ≤ maxLen) (hf : ∀ e ∈ l, fits e.2.2) (h0 : F + m ≤ l.length) (hT : T.length + 2048 ≤ 65536) (hcap : ∀ a cap, v = .slice a l.length cap → l.length ≤ cap) :
    Calls Tryz.prog 17 #[.pointer (some ⟨p, 0, none⟩), v, .int .i64 F, .int .i64 m] w fun e w' => ∃ (a b : Int) (a1 : Option Addr) (n1 c1 : Nat) (a2 : Option Addr) (n2 c2 : Nat) (er : Value) (c : Int) (O' : Nat → Prop) (T' : List (List UInt8)), e = .returned (.tuple #[.agg #[.int .i64 a, .int .i64 b, .slice a1 n1 c1, .slice a2 n2 c2], er]) ∧ Bk w' p O' T' ∧ Goes w O T w' O' T' 2048 ∧ ErrM w' (fun k => w.heap.size ≤ k ∧ ¬ O' k) er c ∧ ((Right l ∧ c = 0) ∨ (¬ Right l ∧ c = 1)) := by
  by_cases hr : Right l
  · have hc := cost_le hr
    refine (mProve_ok w p O T v l F m h hv hf hr h0 (by omega) hcap).mono ?_
    rintro e w' ⟨f, vl, vb, ds, O', T', rfl, g1, g2, g3, _⟩
    obtain ⟨al, cl, rfl⟩ := g3.1.form
    obtain ⟨ab, cb, rfl⟩ := NumsIn.form g3.2
    exact ⟨_, _, _, _, _, _, _, _, _, 0, O', T', rfl, g1, g2.more (by omega), Or.inl ⟨rfl, rfl⟩, Or.inl ⟨hr, rfl⟩⟩
  · refine (mProve_bad w _ _ v l F m hv hl hr).mono ?_
    rintro e w' ⟨er, rfl, ho, hb⟩
    exact ⟨0, 0, _, _, _, _, _, _, er, 1, O, T, rfl, h.next hb, (Goes.of_below hb).more (by omega), Or.inr ⟨by decide, ho.mono (fun k hk _ => ⟨hk, fun o => by have := h.2 k o; omega⟩)⟩, Or.inr ⟨hr, rfl⟩⟩

/-- an error, or none, apart from the Book -/
def ErrAp (w : World) (O : Nat → Prop) (er : Value) (c : Int) : Prop := ErrM w (fun k => k < w.heap.size ∧ ¬ O k) er c
theorem ErrM.ap {w : World} {B : Nat} {O : Nat → Prop} {er : Value} {c : Int} (h : ErrM w (fun k => B ≤ k ∧ ¬ O k) er c) : ErrAp w O er c := by
  rcases h with h | ⟨h1, h2⟩
  · exact Or.inl h
  · exact Or.inr ⟨h1, h2.mono (fun k hk hl => ⟨hl, hk.2⟩)⟩
theorem ErrAp.next {w w' : World} {O : Nat → Prop} {er : Value} {c : Int} (h : ErrAp w O er c) (hb : Below w.heap.size w w') : ErrAp w' O er c := by
  rcases h with h | ⟨h1, h2⟩
  · exact Or.inl h
  · exact Or.inr ⟨h1, (h2.kept (Kept.of_all hb)).mono (fun k hk hl => ⟨hl, hk.2⟩)⟩
theorem ErrAp.goes {w w' : World} {O O' : Nat → Prop} {T T' : List (List UInt8)} {n : Nat} {er : Value} {c : Int} (h : ErrAp w O er c) (hg : Goes w O T w' O' T' n) : ErrAp w' O' er c := by
  rcases h with h | ⟨h1, h2⟩
  · exact Or.inl h
  · exact Or.inr ⟨h1, (h2.kept (hg.turn.kept (fun _ hk _ => hk.2))).mono (fun k hk hl => ⟨hl, hg.not hk.1 hk.2⟩)⟩
theorem ErrAp.code {w : World} {O : Nat → Prop} {er : Value} {c : Int} (h : ErrAp w O er c) (hg : ET w) : Calls Tryz.prog 20 #[er] w fun e w' => e = .returned (.int .i64 c) ∧ Below w.heap.size w w' := by
  rcases h with ⟨rfl, rfl⟩ | ⟨h1, h2⟩
  · exact Code_nil w
  · exact Code_chain _ _ er c w h2.chain (Nat.le_refl _) hg
theorem ErrAp.form {w : World} {O : Nat → Prop} {er : Value} {c : Int} (h : ErrAp w O er c) : (c = 0 ∧ er = .nilIface) ∨ (c ≠ 0 ∧ ∃ t x, er = .iface t x) := ErrM.form h

/-- cells of a room -/
def R4 (w : World) (q : Nat) (a b c d : Value) : Prop := w.cell? ⟨q, 0, none⟩ = some a ∧ w.cell? ⟨q, 1, none⟩ = some b ∧ w.cell? ⟨q, 2, none⟩ = some c ∧ w.cell? ⟨q, 3, none⟩ = some d
theorem R4.next {w w' : World} {q : Nat} {a b c d : Value} (h : R4 w q a b c d) (hb : Below w.heap.size w w') : R4 w' q a b c d :=
  ⟨(hb.cell (lt_of_cell h.1)).trans h.1, (hb.cell (lt_of_cell h.2.1)).trans h.2.1, (hb.cell (lt_of_cell h.2.2.1)).trans h.2.2.1, (hb.cell (lt_of_cell h.2.2.2)).trans h.2.2.2⟩
theorem R4.goes {w w' : World} {q : Nat} {a b c d : Value} {O O' : Nat → Prop} {T T' : List (List UInt8)} {n : Nat} (h : R4 w q a b c d) (hg : Goes w O T w' O' T' n) (hn : ¬ O q) : R4 w' q a b c d :=
  ⟨hg.cell h.1 hn, hg.cell h.2.1 hn, hg.cell h.2.2.1 hn, hg.cell h.2.2.2 hn⟩
theorem R4.lt {w : World} {q : Nat} {a b c d : Value} (h : R4 w q a b c d) : q < w.heap.size := lt_of_cell (a := ⟨q, 0, none⟩) h.1
def R3 (w : World) (q : Nat) (a b c : Value) : Prop := w.cell? ⟨q, 0, none⟩ = some a ∧ w.cell? ⟨q, 1, none⟩ = some b ∧ w.cell? ⟨q, 2, none⟩ = some c
theorem R3.next {w w' : World} {q : Nat} {a b c : Value} (h : R3 w q a b c) (hb : Below w.heap.size w w') : R3 w' q a b c :=
  ⟨(hb.cell (lt_of_cell h.1)).trans h.1, (hb.cell (lt_of_cell h.2.1)).trans h.2.1, (hb.cell (lt_of_cell h.2.2)).trans h.2.2⟩
theorem R3.goes {w w' : World} {q : Nat} {a b c : Value} {O O' : Nat → Prop} {T T' : List (List UInt8)} {n : Nat} (h : R3 w q a b c) (hg : Goes w O T w' O' T' n) (hn : ¬ O q) : R3 w' q a b c :=
  ⟨hg.cell h.1 hn, hg.cell h.2.1 hn, hg.cell h.2.2 hn⟩
theorem R3.lt {w : World} {q : Nat} {a b c : Value} (h : R3 w q a b c) : q < w.heap.size := lt_of_cell (a := ⟨q, 0, none⟩) h.1

theorem root_fun {T T' : List (List UInt8)} {l : List Ent} {d d' c c' : Int} (hx : Exts T T') (ho : Once T') (h1 : RootRes T l d c) (h2 : RootRes T' l d' c') : d' = d ∧ c' = c := by
  rcases h1 with ⟨a1, rfl, f1, t1, a2, a3, a4⟩ | ⟨a1, rfl, rfl⟩ <;> rcases h2 with ⟨b1, rfl, f2, t2, b2, b3, b4⟩ | ⟨b1, rfl, rfl⟩
  · have h := top_fun ho (a2.more hx) b2
    have e3 : t1 = t2 := by omega
    subst e3
    exact ⟨ho.dig b4 (a4.more hx), rfl⟩
  · exact absurd a1 b1
  · exact absurd b1 a1
  · exact ⟨rfl, rfl⟩
theorem RootMade.more {T T' : List (List UInt8)} {N F : Nat} {L : List Ent} {Bs : List Int} {d : Int} (h : RootMade T N F L Bs d) (hx : Exts T T') : RootMade T' N F L Bs d := by
  obtain ⟨f, t, h1, h2, h3⟩ := h
  exact ⟨f, t, h1, h2.more hx, h3.more hx⟩
theorem RootMade.func {T : List (List UInt8)} (ho : Once T) {N F : Nat} {L : List Ent} {Bs : List Int} {d d' : Int} (h : RootMade T N F L Bs d) (h' : RootMade T N F L Bs d') : d = d' := by
  obtain ⟨f, t, h1, h2, h3⟩ := h
  obtain ⟨f', t', k1, k2, k3⟩ := h'
  obtain ⟨rfl, _⟩ := made_fun ho h2 k2
  exact ho.dig h3 k3
theorem chk_fun {T T' : List (List UInt8)} {N F : Int} {L : List Ent} {Bs : List Int} {root c c' : Int} (hx : Exts T T') (ho : Once T') (h1 : ChkRes T N F L Bs root c) (h2 : ChkRes T' N F L Bs root c') : c' = c := by
  rcases h1 with ⟨rfl, a1, a2⟩ | ⟨rfl, a1⟩ | ⟨rfl, a1, d, a2, a3⟩ <;> rcases h2 with ⟨rfl, b1, b2⟩ | ⟨rfl, b1⟩ | ⟨rfl, b1, d', b2, b3⟩
  · rfl
  · exact absurd a1 b1
  · exact absurd (RootMade.func ho b3 (a2.more hx)) b2
  · exact absurd b1 a1
  · rfl
  · exact absurd b1 a1
  · exact absurd (RootMade.func ho (a3.more hx) b2) a2
  · exact absurd a1 b1
  · rfl
theorem has_fun {T T' : List (List UInt8)} {N F : Int} {L : List Ent} {Bs : List Int} {root c c' : Int} {key : List UInt8} {x x' : Ent} {is is' : Bool} (hx : Exts T T') (ho : Once T') (h1 : HasRes T N F L Bs root key c x is) (h2 : HasRes T' N F L Bs root key c' x' is') : c' = c ∧ x' = x ∧ is' = is := by
  obtain ⟨c0, k1, r1⟩ := h1
  obtain ⟨c1, k2, r2⟩ := h2
  obtain rfl := chk_fun hx ho k1 k2
  rcases r1 with ⟨a1, rfl, rfl, rfl⟩ | ⟨a1, a2, rfl, rfl⟩ | ⟨a1, a2, rfl, rfl, rfl⟩ <;> rcases r2 with ⟨b1, rfl, rfl, rfl⟩ | ⟨b1, b2, rfl, rfl⟩ | ⟨b1, b2, rfl, rfl, rfl⟩
  · exact ⟨rfl, rfl, rfl⟩
  · exact absurd b1 a1
  · exact absurd b1 a1
  · exact absurd a1 b1
  · rw [a2] at b2; cases b2; exact ⟨rfl, rfl, rfl⟩
  · rw [a2] at b2; cases b2
  · exact absurd a1 b1
  · rw [a2] at b2; cases b2
  · exact ⟨rfl, rfl, rfl⟩
/-- append of entries, whatever they are, onto entries that are owned: what comes of it -/
theorem append_ents {P : Program} (w : World) (base : Nat) (t ty e : TypeId) (i : TypeInfo) (z : Value) (ht : P.underlying t = some (.slice e)) (hi : P.info? e = some i) (hz : i.zero = some z)
    (hsize : i.size = 3) (hby : i.bytes = 40) (hzs : z.cells.size = 3)
    (v : Value) (n : Nat) (xs : List Value) (hown : w.ownsRow base e 3 v n xs) (A : Nat → Prop) (xv : Value) (l : List Ent) (hx : EntsIn w A xv l) (h63 : (n + l.length) * 40 ≤ 140737488355328) (hbase : base ≤ w.heap.size) :
    ∃ v' w', (Builtin.append_ #[t, t] ty #[v, xv]).run P w = .ok v' w' ∧ w'.ownsRow base e 3 v' (n + l.length) (xs ++ entsCells l) ∧ w.grownBy w' v.ownBlock ∧ (v'.ownBlock = v.ownBlock ∨ v'.ownBlock = some w.heap.size) := by
  have hx2 := hx
  obtain ⟨a, cap, rfl, hnil, _⟩ := hx2
  cases a with
  | none =>
    obtain ⟨rfl, hl, _⟩ := hnil rfl
    have hl2 : l = [] := List.eq_nil_of_length_eq_zero hl
    subst hl2
    exact ⟨v, w, run_append_owned_none (P := P) (w := w) base t ty e i 3 ht hi v n xs hown, by simpa [entsCells] using hown, ⟨rfl, rfl, rfl, Nat.le_refl _, fun _ _ _ => rfl⟩, Or.inl rfl⟩
  | some ad =>
    obtain ⟨v', w', h1, h2, h3, _, h4⟩ := run_append_own_at (P := P) w base t ty e i z 3 40 ht hi hz hsize hby hzs (by decide) v n xs hown ad l.length cap (entsCells l) (entsCells_len l) (RowIn.cells hx) (entsCells_one l) (by unfold maxLen; omega) (by omega) hbase
    exact ⟨v', w', h1, h2, h3, h4⟩
/-- the same, at the operation of a plain walk -/
theorem wpList_append_ents {P : Program} {ops : Array Oper} {rest : List Oper} {o : Oper} {a : Act} {w : World} {Q : Exit → Act → World → Prop} (hgd : o.guard = none) (s x : Operand) (t : TypeId)
    (ho : o.op = .call { callee := .builtin .append, args := #[s, x], argTypes := #[t, t] })
    (base : Nat) (e : TypeId) (i : TypeInfo) (z : Value) (ht : P.underlying t = some (.slice e)) (hi : P.info? e = some i) (hz : i.zero = some z)
    (hsize : i.size = 3) (hby : i.bytes = 40) (hzs : z.cells.size = 3)
    (v : Value) (n : Nat) (xs : List Value) (hs : a.eval s = v) (hown : w.ownsRow base e 3 v n xs) (A : Nat → Prop) (xv : Value) (l : List Ent) (hx : a.eval x = xv) (hxv : EntsIn w A xv l) (h63 : (n + l.length) * 40 ≤ 140737488355328) (hbase : base ≤ w.heap.size)
    (h : ∀ v' w', w'.ownsRow base e 3 v' (n + l.length) (xs ++ entsCells l) → w.grownBy w' v.ownBlock → (v'.ownBlock = v.ownBlock ∨ v'.ownBlock = some w.heap.size) → wpList P ops Q rest (a.put o.dst v') w') :
    wpList P ops Q (o :: rest) a w := by
  refine wpList_plain hgd fun K hK => ?_
  obtain ⟨v', w', hr, h2, h3, h5⟩ := append_ents (P := P) w base t o.type e i z ht hi hz hsize hby hzs v n xs hown A xv l hxv h63 hbase
  unfold Oper.wp execOp
  simp only [ho, resolve, invoke, builtin, Sem.run_bind, Sem.run_pure, Result.andThen_ok, List.map_toArray, List.map_cons, List.map_nil, hs, hx, hr]
  exact hK _ _ (h v' w' h2 h3 h5)
/-- the same, as one step of a region that draws -/
theorem step_append_ents {P : Program} {ops : Array Oper} {o : Oper} {a : Act} {w : World} {K : Act → World → Prop} {Q : Exit → Act → World → Prop} {E : Prop} (hgd : o.guard = none) (s x : Operand) (t : TypeId)
    (ho : o.op = .call { callee := .builtin .append, args := #[s, x], argTypes := #[t, t] })
    (base : Nat) (e : TypeId) (i : TypeInfo) (z : Value) (ht : P.underlying t = some (.slice e)) (hi : P.info? e = some i) (hz : i.zero = some z)
    (hsize : i.size = 3) (hby : i.bytes = 40) (hzs : z.cells.size = 3)
    (v : Value) (n : Nat) (xs : List Value) (hs : a.eval s = v) (hown : w.ownsRow base e 3 v n xs) (A : Nat → Prop) (xv : Value) (l : List Ent) (hx : a.eval x = xv) (hxv : EntsIn w A xv l) (h63 : (n + l.length) * 40 ≤ 140737488355328) (hbase : base ≤ w.heap.size)
    (h : ∀ v' w', w'.ownsRow base e 3 v' (n + l.length) (xs ++ entsCells l) → w.grownBy w' v.ownBlock → (v'.ownBlock = v.ownBlock ∨ v'.ownBlock = some w.heap.size) → K (a.put o.dst v') w') :
    if Region.wanted o (yielded ops a.tmps) = true then Oper.wp P o a w K Q else E := by
  have hw : Region.wanted o (yielded ops a.tmps) = true := by simp [Region.wanted, hgd]
  rw [if_pos hw]
  obtain ⟨v', w', hr, h2, h3, h5⟩ := append_ents (P := P) w base t o.type e i z ht hi hz hsize hby hzs v n xs hown A xv l hxv h63 hbase
  unfold Oper.wp execOp
  simp only [ho, resolve, invoke, builtin, Sem.run_bind, Sem.run_pure, Result.andThen_ok, List.map_toArray, List.map_cons, List.map_nil, hs, hx, hr]
  exact h v' w' h2 h3 h5
/-- a list of one entry, made -/
theorem lit_one (u : World) (e : Ent) : ∃ U, U = u.alloc (.cells #[.string ⟨e.1.toArray⟩, .string ⟨e.2.1.toArray⟩, .int .i64 e.2.2] 42) ∧ Below u.heap.size u U ∧ U.heap.size = u.heap.size + 1 ∧ U.ownsRow u.heap.size 42 3 (.slice (some ⟨u.heap.size, 0, none⟩) 1 1) 1 (entsCells [e]) :=
  ⟨_, rfl, (Below.refl _ _).alloc (Nat.le_refl _) _, by simp, rfl, Or.inr ⟨u.heap.size, 1, #[.string ⟨e.1.toArray⟩, .string ⟨e.2.1.toArray⟩, .int .i64 e.2.2], rfl, Nat.le_refl _, heap_alloc_new u _, Nat.le_refl _, by decide, rfl, rfl⟩⟩
end Go.Proofs.YtmhbfplaglipnaaGreatDoor
