/-
  What is proved here: locks in memory; New, Many, Holder, barred, wrong; over this program.
-/
import Derived.Test.YtnojbejjlahhkaaGreatDoorHA
namespace Go.Proofs.YtnojbejjlahhkaaGreatDoor
open Go.RowKit Go.Extern.Stop Go.Stop Go.Extern

/-- Locks at p of which L is had; their memory lies in blocks of O -/
def LkSt (w : World) (p : Nat) (O : Nat → Prop) (L : Lk) : Prop :=
  ∃ m, w.cell? ⟨p, 0, none⟩ = some (.map (some m)) ∧ w.frozen? ⟨p, 0, none⟩ = false ∧ w.ownsMap Tryz.prog 9 (plainElem Tryz.prog 3) m L.length (DL L) ∧ O p ∧ O m ∧ (∀ k, O k → k < w.heap.size) ∧ L.length ≤ 128
theorem LkSt.next {w w' : World} {p : Nat} {O : Nat → Prop} {L : Lk} (h : LkSt w p O L) (hb : Below w.heap.size w w') : LkSt w' p O L := by
  obtain ⟨m, c0, f0, hm, o1, o2, o3, r⟩ := h
  obtain ⟨es, clock, hmb, F⟩ := hm
  exact ⟨m, (hb.cell (lt_of_cell c0)).trans c0, (World.frozen?_of_block (a := ⟨p, 0, none⟩) (hb.block p (lt_of_cell c0))).trans f0, ⟨es, clock, (hb.block m (o3 m o2)).trans hmb, F⟩, o1, o2, fun k hk => Nat.lt_of_lt_of_le (o3 k hk) hb.size, r⟩
theorem LkSt.rise {w : World} {p : Nat} {O : Nat → Prop} {L : Lk} (h : LkSt w p O L) : KRise L := by
  obtain ⟨m, _, _, hm, _⟩ := h
  exact rise_DL (hm.canon keyLaw)
theorem LkSt.few {w : World} {p : Nat} {O : Nat → Prop} {L : Lk} (h : LkSt w p O L) : L.length ≤ 128 := by
  obtain ⟨m, _, _, _, _, _, _, r⟩ := h
  exact r
theorem LkSt.lt {w : World} {p : Nat} {O : Nat → Prop} {L : Lk} (h : LkSt w p O L) : ∀ k, O k → k < w.heap.size := by
  obtain ⟨m, _, _, _, _, _, r, _⟩ := h
  exact r
theorem own_tight {H : Type} {w : World} {P : Program} {k : TypeId} {R : Value → Option (DataW H × List MemPlace)} {b n : Nat} {D : DataW H} (h : w.ownsMap P k R b n D) {j : Nat} (hj : Maps.size D = j) : w.ownsMap P k R b j D := by
  obtain ⟨es, clock, hb, F, _, hD⟩ := h
  refine ⟨es, clock, hb, F, ?_, hD⟩
  rw [← hj, hD]
  simp [Maps.size, length_sorted]
theorem key_str {s : List UInt8} (h : s.length ≤ maxLen) : keyOf Tryz.prog 9 (.string ⟨s.toArray⟩) = some (.string s) :=
  WideMaps.keyOf_string_mk (s := ⟨s.toArray⟩) Tryz.underlying9 (by show s.toArray.size ≤ maxLen; simpa using h)
theorem wf_fits {n : Int} (h : fits n) : (Lit.int .i64 n).wf = true := by
  unfold fits at h
  simp [Lit.wf, IntKind.min, IntKind.max, IntKind.signed, IntKind.bits]
  omega
theorem elem_int {n : Int} (h : fits n) : plainElem (H := Unit) Tryz.prog 3 (.int .i64 n) = some (.lit (.int .i64 n), []) := plainElem_int Tryz.underlying3 (wf_fits h)
theorem look_lk {w : World} {m n : Nat} {L : Lk} {s : List UInt8} (hm : w.ownsMap Tryz.prog 9 (plainElem Tryz.prog 3) m n (DL L)) (hs : s.length ≤ maxLen) :
    (Instr.lookup 54 (.map (some m)) (.string ⟨s.toArray⟩) true).run Tryz.prog w = .ok (.tuple #[.int .i64 ((holdL L s).getD 0), .bool (holdL L s).isSome]) w := by
  obtain ⟨v, ps, hrun, hv⟩ := hm.look_ok keyLaw Tryz.underlying54 (zeroInt _) (elem_int (n := 0) (by unfold fits; omega)) (key_str hs)
  obtain ⟨c, rfl, hc, _⟩ := plainElem_int_inv Tryz.underlying3 hv
  rw [hrun, has_DL]
  have h1 := congrArg Prod.fst hc
  rw [at_DL] at h1
  cases hh : holdL L s with
  | none => rw [hh] at h1; simp at h1; subst h1; rfl
  | some k => rw [hh] at h1; simp at h1; subst h1; rfl
/-- every holder is a number of the machine -/
theorem LkSt.held {w : World} {p : Nat} {O : Nat → Prop} {L : Lk} (h : LkSt w p O L) {s : List UInt8} {n : Int} (hh : holdL L s = some n) : fits n ∧ s.length ≤ maxLen := by
  obtain ⟨m, _, _, hm, _⟩ := h
  obtain ⟨es, hes, hk⟩ := hm.keysOf
  have hmem : (Lit.string s, (DataW.lit (.int .i64 n) : DataW Unit)) ∈ es := by
    have h0 := List.mem_map_of_mem (f := fun x : List UInt8 × Int => ((Lit.string x.1, .lit (.int .i64 x.2)) : Lit × DataW Unit)) (hold_mem hh)
    unfold DL at hes
    simp only [DataW.map.injEq] at hes
    rw [← hes]; exact h0
  obtain ⟨v, hv⟩ := hk _ hmem
  obtain ⟨x, rfl, hx, hl⟩ := Maps.keyOf_str Tryz.underlying9 hv
  cases hx
  refine ⟨?_, hl⟩
  obtain ⟨u, ps, _, hu⟩ := hm.look_ok keyLaw Tryz.underlying54 (zeroInt _) (elem_int (n := 0) (by unfold fits; omega)) hv
  obtain ⟨c, rfl, hc, hw⟩ := plainElem_int_inv Tryz.underlying3 hu
  have h1 := congrArg Prod.fst hc
  rw [at_DL, hh] at h1
  simp at h1
  subst h1
  simp [Lit.wf, IntKind.min, IntKind.max, IntKind.signed, IntKind.bits] at hw
  unfold fits
  omega

/-- what became of the world: the locks' blocks, and new ones, alone -/
structure Move (w : World) (O : Nat → Prop) (w' : World) (O' : Nat → Prop) : Prop where
  turn : Turn O w w'
  own : ∀ k, O' k → O k ∨ w.heap.size ≤ k
theorem Move.of_below {w w' : World} {O : Nat → Prop} (h : Below w.heap.size w w') : Move w O w' O := ⟨Turn.of_below h, fun _ h => Or.inl h⟩
theorem Move.not {w w' : World} {O O' : Nat → Prop} (h : Move w O w' O') {k : Nat} (hk : k < w.heap.size) (hn : ¬ O k) : ¬ O' k := fun o => by
  rcases h.own k o with e | e
  · exact hn e
  · omega
theorem Move.trans {w w1 w2 : World} {O O1 O2 : Nat → Prop} (h : Move w O w1 O1) (h1 : Move w1 O1 w2 O2) : Move w O w2 O2 :=
  ⟨h.turn.trans h1.turn h.own, fun k hk => by
    rcases h1.own k hk with e | e
    · exact h.own k e
    · exact Or.inr (Nat.le_trans h.turn.size e)⟩

set_option maxHeartbeats 4000000 in
theorem lkNew_any (w : World) : Calls Tryz.prog 5 #[] w fun e w' => ∃ p, e = .returned (.pointer (some ⟨p, 0, none⟩)) ∧ LkSt w' p (fun k => w.heap.size ≤ k ∧ k < w'.heap.size) [] ∧ Below w.heap.size w w' := by
  have hmm := @run_makeMap Tryz.prog
  go_enter Tryz.func5, Tryz.ntmps5
  go_wp2
  go_ret
  have e1 : (w.alloc (.map #[] 0)).heap.size = w.heap.size + 1 := by simp
  refine ⟨w.heap.size + 1, rfl, ⟨w.heap.size, ?_, ?_, (World.ownsMap_made w _ _ _).alloc _, ⟨by omega, by simp⟩, ⟨by omega, by simp; omega⟩, fun k hk => hk.2, by simp⟩, ((Below.refl _ _).alloc (Nat.le_refl _) _).alloc (by simp) _⟩
  · rw [World.cell?_alloc_at _ _ _ _ e1.symm]; rfl
  · exact World.frozen?_alloc_at _ _ _ _ e1.symm

theorem lkMany_any (w : World) (p : Nat) (O : Nat → Prop) (L : Lk) (h : LkSt w p O L) : Calls Tryz.prog 18 #[.pointer (some ⟨p, 0, none⟩)] w fun e w' => e = .returned (.int .i64 L.length) ∧ w' = w := by
  obtain ⟨m, c0, _, hm, _⟩ := h
  have hln := fun ty => hm.len Tryz.underlying54 ty
  rw [size_DL] at hln
  clear hm
  go_enter Tryz.func18, Tryz.ntmps18
  go_wp2
  go_ret
  exact ⟨rfl, rfl⟩

/-- what Holder answers -/
def holdV (o : Option Int) : Value := .tuple #[.int .i64 (o.getD (-1)), .bool o.isSome]
set_option maxHeartbeats 4000000 in
theorem lkHolder_any (w : World) (p : Nat) (O : Nat → Prop) (L : Lk) (s : List UInt8) (h : LkSt w p O L) (hs : s.length ≤ maxLen) :
    Calls Tryz.prog 20 #[.pointer (some ⟨p, 0, none⟩), .string ⟨s.toArray⟩] w fun e w' => e = .returned (holdV (holdL L s)) ∧ w' = w := by
  obtain ⟨m, c0, _, hm, _⟩ := h
  have hlk := look_lk hm hs
  clear hm hs
  generalize holdL L s = r at hlk ⊢
  cases r with
  | none =>
    simp only [Option.getD_none, Option.isSome_none] at hlk
    go_enter Tryz.func20, Tryz.ntmps20
    go_wp2
    go_ret2
    exact ⟨rfl, rfl⟩
  | some n =>
    simp only [Option.getD_some, Option.isSome_some] at hlk
    go_enter Tryz.func20, Tryz.ntmps20
    go_wp2
    go_ret2
    exact ⟨rfl, rfl⟩

theorem lkwrong_any (w : World) (n at_ : Int) (hn : (n == 0) = false) :
    Calls Tryz.prog 23 #[.int .i64 n, .int .i64 at_] w fun e w' => ∃ v, e = .returned v ∧ One w' (fun k => k = w.heap.size) v n ⟨#[108, 111, 99, 107]⟩ at_ ∧ Below w.heap.size w w' := by
  go_enter Tryz.func23, Tryz.ntmps23
  go_wp2_with fail
  refine (Of_err n hn w).mono ?_
  rintro e w1 ⟨rfl, rfl⟩
  go_wp2_with fail
  refine (Wrap_some 37 (.int .i64 n) _ _ _).mono ?_
  rintro e w3 ⟨rfl, rfl⟩
  go_wp2
  go_ret
  refine ⟨_, rfl, ⟨w1.heap.size, rfl, rfl, ?_, ?_, ?_⟩, (Below.refl _ _).alloc (Nat.le_refl _) _⟩
  · rw [World.cell?_alloc_at _ _ _ _ rfl]; rfl
  · rw [World.cell?_alloc_at _ _ _ _ rfl]; rfl
  · rw [World.cell?_alloc_at _ _ _ _ rfl]; rfl

/-- why somebody may not have a key -/
def barE (L : Lk) (who : Int) (s : List UInt8) : Int := if 16 < s.length then 1 else match holdL L s with | some n => if n == who then 0 else 81 | none => 0
set_option maxHeartbeats 4000000 in
theorem lkbarred_any (w : World) (p : Nat) (O : Nat → Prop) (L : Lk) (who : Int) (s : List UInt8) (h : LkSt w p O L) (hs : s.length ≤ maxLen) :
    Calls Tryz.prog 24 #[.pointer (some ⟨p, 0, none⟩), .int .i64 who, .string ⟨s.toArray⟩] w fun e w' => e = .returned (.int .i64 (barE L who s)) ∧ Below w.heap.size w w' := by
  have HS := hideIt h
  have HL := hideIt hs
  unfold maxLen at hs
  clear h
  by_cases hl : 16 < s.length
  · rw [show barE L who s = 1 by unfold barE; rw [if_pos hl]]
    go_enter Tryz.func24, Tryz.ntmps24
    go_wp2
    go_ret
    exact ⟨rfl, Below.refl _ _⟩
  · cases hh : holdL L s with
    | none =>
      rw [show barE L who s = 0 by unfold barE; rw [if_neg hl, hh]]
      have HH := hideIt hh
      clear hh
      go_enter Tryz.func24, Tryz.ntmps24
      go_wp2_with fail
      refine (lkHolder_any w p O L s HS.out HL.out).mono ?_
      rintro e w1 ⟨rfl, rfl⟩
      rw [HH.out]
      unfold holdV
      go_wp2
      go_ret
      exact ⟨rfl, Below.refl _ _⟩
    | some n =>
      cases hq : n == who with
      | true =>
        rw [show barE L who s = 0 by unfold barE; rw [if_neg hl, hh]; simp only [hq, if_true]]
        have HH := hideIt hh
        have hq2 : (n != who) = false := by simp [bne, hq]
        clear hh hq
        go_enter Tryz.func24, Tryz.ntmps24
        go_wp2_with fail
        refine (lkHolder_any w p O L s HS.out HL.out).mono ?_
        rintro e w1 ⟨rfl, rfl⟩
        rw [HH.out]
        unfold holdV
        go_wp2
        go_ret
        exact ⟨rfl, Below.refl _ _⟩
      | false =>
        rw [show barE L who s = 81 by unfold barE; rw [if_neg hl, hh]; simp only [hq, Bool.false_eq_true, if_false]]
        have HH := hideIt hh
        have hq2 : (n != who) = true := by simp [bne, hq]
        clear hh hq
        go_enter Tryz.func24, Tryz.ntmps24
        go_wp2_with fail
        refine (lkHolder_any w p O L s HS.out HL.out).mono ?_
        rintro e w1 ⟨rfl, rfl⟩
        rw [HH.out]
        unfold holdV
        go_wp2
        go_ret
        exact ⟨rfl, Below.refl _ _⟩
end Go.Proofs.YtnojbejjlahhkaaGreatDoor
