/-
  What is proved here: the document's own Locks (cohortref08) in memory: Holder, Any, Keys; cohortref07.In; over this program.
-/
import Derived.Test.YtnojbejjlahhkaaGreatDoorHH
namespace Go.Proofs.YtnojbejjlahhkaaGreatDoor
open Go.RowKit Go.Extern.Stop Go.Stop Go.Extern

def heldCells (L : Lk) : List Value := L.flatMap fun x => [.string ⟨x.1.toArray⟩, .int .i64 x.2]
theorem heldCells_len (L : Lk) : (heldCells L).length = L.length * 2 := by
  induction L with
  | nil => rfl
  | cons x r ih => simp only [heldCells, List.flatMap_cons, List.length_append] at ih ⊢; rw [ih]; simp; omega
theorem heldCells_at {L : Lk} {k : Nat} {x : List UInt8 × Int} (h : L[k]? = some x) : (heldCells L)[k * 2]? = some (.string ⟨x.1.toArray⟩) ∧ (heldCells L)[k * 2 + 1]? = some (.int .i64 x.2) := by
  induction L generalizing k with
  | nil => simp at h
  | cons y r ih =>
    cases k with
    | zero => simp at h; subst h; exact ⟨rfl, rfl⟩
    | succ k =>
      have := ih (k := k) (by simpa using h)
      have e1 : ∀ j, (heldCells (y :: r))[(k + 1) * 2 + j]? = (heldCells r)[k * 2 + j]? := fun j => by
        show ([Value.string ⟨y.1.toArray⟩, .int .i64 y.2] ++ heldCells r)[(k + 1) * 2 + j]? = _
        rw [List.getElem?_append_right (by simp; omega)]
        congr 1; simp; omega
      exact ⟨by rw [show (k + 1) * 2 = (k + 1) * 2 + 0 by omega, e1]; exact this.1, by rw [e1]; exact this.2⟩
theorem heldCells_append (a b : Lk) : heldCells (a ++ b) = heldCells a ++ heldCells b := List.flatMap_append ..
theorem heldCells_one (L : Lk) : ∀ u ∈ heldCells L, u.oneCell' = true := by
  intro u hu
  obtain ⟨x, _, hx⟩ := List.mem_flatMap.1 hu
  simp at hx
  rcases hx with rfl | rfl <;> rfl
/-- a slice of them -/
def HeldsIn (w : World) (A : Nat → Prop) (v : Value) (L : Lk) : Prop := RowIn w A v L.length (heldCells L)
theorem HeldsIn.form {w : World} {A : Nat → Prop} {v : Value} {L : Lk} (h : HeldsIn w A v L) : ∃ a cap, v = .slice a L.length cap := by
  obtain ⟨a, cap, h1, _⟩ := h
  exact ⟨a, cap, h1⟩
theorem HeldsIn.at {w : World} {A : Nat → Prop} {a : Option Addr} {n cap : Nat} {L : Lk} (h : HeldsIn w A (.slice a n cap) L) {k : Nat} {x : List UInt8 × Int} (hs : L[k]? = some x) :
    ∃ b off, a = some ⟨b, off, none⟩ ∧ A b ∧ w.cell? ⟨b, off + k * 2, none⟩ = some (.string ⟨x.1.toArray⟩) ∧ w.cell? ⟨b, off + k * 2 + 1, none⟩ = some (.int .i64 x.2) := by
  obtain ⟨a', cap', e1, _, h2⟩ := h
  simp only [Value.slice.injEq] at e1
  obtain ⟨rfl, _, rfl⟩ := e1
  obtain ⟨c0, c1⟩ := heldCells_at hs
  obtain ⟨b, off, r1, r2, r3⟩ := h2 _ _ c0
  obtain ⟨b', off', s1, s2, s3⟩ := h2 _ _ c1
  rw [r1] at s1
  cases s1
  exact ⟨b, off, r1, r2, r3, by rw [Nat.add_assoc]; exact s3⟩
/-- the document's Locks at q with the entries L; what they lean on lies in blocks of O -/
def DLk (w : World) (q : Nat) (O : Nat → Prop) (L : Lk) : Prop :=
  ∃ v, w.cell? ⟨q, 0, none⟩ = some v ∧ w.frozen? ⟨q, 0, none⟩ = false ∧ O q ∧ (∀ k, O k → k < w.heap.size) ∧ HeldsIn w (fun k => O k ∧ k ≠ q) v L
theorem DLk.next {w w' : World} {q : Nat} {O : Nat → Prop} {L : Lk} (h : DLk w q O L) (hb : Below w.heap.size w w') : DLk w' q O L := by
  obtain ⟨v, c0, f0, o1, o2, hv⟩ := h
  exact ⟨v, (hb.cell (lt_of_cell c0)).trans c0, (World.frozen?_of_block (a := ⟨q, 0, none⟩) (hb.block q (lt_of_cell c0))).trans f0, o1, fun k hk => Nat.lt_of_lt_of_le (o2 k hk) hb.size, RowIn.kept hv (Kept.of_below hb (fun k hk _ => o2 k hk.1))⟩
theorem DLk.lt {w : World} {q : Nat} {O : Nat → Prop} {L : Lk} (h : DLk w q O L) : ∀ k, O k → k < w.heap.size := by
  obtain ⟨v, _, _, _, o2, _⟩ := h
  exact o2
theorem hold_at {L : Lk} {s : List UInt8} {n : Int} {k : Nat} (h : L[k]? = some (s, n)) (hn : ∀ (j : Nat) x, j < k → L[j]? = some x → x.1 ≠ s) : holdL L s = some n := by
  induction L generalizing k with
  | nil => simp at h
  | cons y r ih =>
    cases k with
    | zero => simp at h; subst h; simp [holdL]
    | succ k =>
      have h0 := hn 0 y (by omega) rfl
      have := ih (k := k) (by simpa using h) (fun j x hj hx => hn (j + 1) x (by omega) (by simpa using hx))
      unfold holdL at this ⊢
      rw [List.find?_cons_of_neg (by simpa using h0)]
      exact this
theorem hold_not {L : Lk} {s : List UInt8} (hn : ∀ (j : Nat) x, L[j]? = some x → x.1 ≠ s) : holdL L s = none := by
  unfold holdL
  rw [Option.map_eq_none_iff, List.find?_eq_none]
  intro x hx
  obtain ⟨j, hj⟩ := List.getElem?_of_mem hx
  simpa using hn j x hj

set_option maxHeartbeats 4000000 in
theorem dlHolder_any (w : World) (q : Nat) (O : Nat → Prop) (L : Lk) (s : List UInt8) (h : DLk w q O L) (hl : L.length ≤ 100000) :
    Calls Tryz.prog 21 #[.pointer (some ⟨q, 0, none⟩), .string ⟨s.toArray⟩] w fun e w' => e = .returned (holdV (holdL L s)) ∧ w' = w := by
  obtain ⟨v, c0, f0, o1, o2, hv⟩ := h
  have HV := hideIt hv
  obtain ⟨a, cap, rfl⟩ := hv.form
  clear hv f0 o1 o2
  go_enter Tryz.func21, Tryz.ntmps21
  go_wp2
  go_loop [6] (fun i => ∃ k : Nat, k ≤ L.length ∧ i = .int .i64 k ∧ Hid (∀ (j : Nat) x, j < k → L[j]? = some x → x.1 ≠ s)) (fun i => L.length - (intOf i).toNat)
  case atStart => exact ⟨0, Nat.zero_le _, rfl, hideIt (fun j x hj => by omega)⟩
  case round =>
    obtain ⟨k, hk, rfl, HN⟩ := hrel
    by_cases hlt : k < L.length
    · obtain ⟨x, hx⟩ : ∃ x, L[k]? = some x := ⟨L[k], by simp [hlt]⟩
      obtain ⟨b, off, rfl, _, d0, d1⟩ := HeldsIn.at HV.out hx
      have HX := hideIt hx
      clear hx
      cases hq : x.1 == s with
      | true =>
        have HE : Hid (holdL L s = some x.2) := hideIt (hold_at (k := k) (by rw [HX.out]; rw [← (by simpa using hq : x.1 = s)]) HN.out)
        go_wp2
        go_ret2
        exact ⟨by rw [HE.out]; rfl, rfl⟩
      | false =>
        have HN2 := hideIt (show ∀ (j : Nat) y, j < k + 1 → L[j]? = some y → y.1 ≠ s from fun j y hj hy => by
          by_cases e : j = k
          · subst e; rw [HX.out] at hy; cases hy; simpa using hq
          · exact HN.out j y (by omega) hy)
        go_wp2
        exact ⟨⟨k + 1, by omega, by go_num, HN2⟩, by simp [intOf]; omega⟩
    · have HE : Hid (holdL L s = none) := hideIt (hold_not (fun j x hx => HN.out j x (by have := (List.getElem?_eq_some_iff.1 hx).1; omega) hx))
      go_wp2
      go_ret2
      exact ⟨by rw [HE.out]; rfl, rfl⟩

theorem In07_any (w : World) (s fk tk : List UInt8) : Calls Tryz.prog 31 #[.string ⟨s.toArray⟩, .string ⟨fk.toArray⟩, .string ⟨tk.toArray⟩] w fun e w' => e = .returned (.bool (inK fk tk s)) ∧ w' = w := by
  have hgeq := leq_iff fk s
  cases r1 : Op.bytesLess s fk with
  | true =>
    rw [r1] at hgeq
    rw [show inK fk tk s = false by unfold inK; rw [r1]; rfl]
    go_enter Tryz.func31, Tryz.ntmps31
    go_wp2
    go_ret
    exact ⟨rfl, rfl⟩
  | false =>
    rw [r1] at hgeq
    cases r2 : tk == [] with
    | true =>
      rw [show inK fk tk s = true by unfold inK; rw [r1, r2]; rfl]
      go_enter Tryz.func31, Tryz.ntmps31
      go_wp2
      go_ret
      exact ⟨rfl, rfl⟩
    | false =>
      cases r3 : Op.bytesLess s tk with
      | true =>
        rw [show inK fk tk s = true by unfold inK; rw [r1, r2, r3]; rfl]
        go_enter Tryz.func31, Tryz.ntmps31
        go_wp2
        go_ret
        exact ⟨rfl, rfl⟩
      | false =>
        rw [show inK fk tk s = false by unfold inK; rw [r1, r2, r3]; rfl]
        go_enter Tryz.func31, Tryz.ntmps31
        go_wp2
        go_ret
        exact ⟨rfl, rfl⟩

set_option maxHeartbeats 4000000 in
theorem dlAny_any (w : World) (q : Nat) (O : Nat → Prop) (L : Lk) (fk tk : List UInt8) (h : DLk w q O L) (hl : L.length ≤ 100000) :
    Calls Tryz.prog 15 #[.pointer (some ⟨q, 0, none⟩), .string ⟨fk.toArray⟩, .string ⟨tk.toArray⟩] w fun e w' => e = .returned (.bool (L.any fun x => inK fk tk x.1)) ∧ w' = w := by
  obtain ⟨v, c0, f0, o1, o2, hv⟩ := h
  have HV := hideIt hv
  obtain ⟨a, cap, rfl⟩ := hv.form
  clear hv f0 o1 o2
  go_enter Tryz.func15, Tryz.ntmps15
  go_wp2
  go_loopw [7] (fun i wr => ∃ k : Nat, k ≤ L.length ∧ i = .int .i64 k ∧ Hid ((L.take k).any (fun x => inK fk tk x.1) = false) ∧ wr = w) (fun i _ => L.length - (intOf i).toNat)
  case atStart => exact ⟨0, Nat.zero_le _, rfl, hideIt rfl, rfl⟩
  case round =>
    obtain ⟨k, hk, rfl, HN, hwr⟩ := hrel
    subst hwr
    by_cases hlt : k < L.length
    · obtain ⟨x, hx⟩ : ∃ x, L[k]? = some x := ⟨L[k], by simp [hlt]⟩
      obtain ⟨b, off, rfl, _, d0, d1⟩ := HeldsIn.at HV.out hx
      have HX := hideIt hx
      clear hx d1
      go_wp2_with fail
      refine (In07_any wr x.1 fk tk).mono ?_
      rintro e w1 ⟨rfl, rfl⟩
      cases hq : inK fk tk x.1 with
      | true =>
        have HE : Hid ((L.any fun x => inK fk tk x.1) = true) := hideIt (List.any_eq_true.2 ⟨x, List.mem_of_getElem? HX.out, hq⟩)
        go_wp2
        go_ret
        exact ⟨by rw [HE.out]; rfl, rfl⟩
      | false =>
        have HN2 : Hid ((L.take (k + 1)).any (fun x => inK fk tk x.1) = false) := hideIt (by rw [List.take_add_one, HX.out, List.any_append, HN.out]; simp [hq])
        go_wp2
        exact ⟨⟨k + 1, by omega, by go_num, HN2, by trivial⟩, by simp [intOf]; omega⟩
    · have HE : Hid ((L.any fun x => inK fk tk x.1) = false) := hideIt (by have h := HN.out; rw [List.take_of_length_le (by omega)] at h; exact h)
      go_wp2
      go_ret
      exact ⟨by rw [HE.out]; rfl, rfl⟩

theorem own_take {L : Lk} {who : Int} {k : Nat} {x : List UInt8 × Int} (h : L[k]? = some x) : ownL (L.take (k + 1)) who = ownL (L.take k) who ++ (if x.2 == who then [x.1] else []) := by
  unfold ownL
  rw [List.take_add_one, h, List.filter_append, List.map_append]
  cases hq : x.2 == who <;> simp [hq]

set_option maxRecDepth 100000 in
set_option maxHeartbeats 8000000 in
theorem dlKeys_any (w : World) (q : Nat) (O : Nat → Prop) (L : Lk) (who : Int) (h : DLk w q O L) (hl : L.length ≤ 100000) :
    Calls Tryz.prog 17 #[.pointer (some ⟨q, 0, none⟩), .int .i64 who] w fun e w' => ∃ v, e = .returned v ∧ w'.ownsRow w.heap.size 9 1 v (ownL L who).length (strCells (ownL L who)) ∧ Below w.heap.size w w' := by
  obtain ⟨i0, hi, hi2⟩ := Option.map_eq_some_iff.1 infoStr
  obtain ⟨hz0, hz1, hz2⟩ : i0.zero = some (.string ⟨#[]⟩) ∧ i0.size = 1 ∧ i0.bytes = 16 := by
    simp only [Prod.mk.injEq] at hi2; exact hi2
  have HI := hideIt (And.intro hi (And.intro hz0 (And.intro hz1 hz2)))
  have HD := hideIt h
  obtain ⟨v0, c0, _, _, _, hv0⟩ := h
  obtain ⟨a, cap, rfl⟩ := hv0.form
  have HC := hideIt c0
  have HV := hideIt hv0
  clear hi2 hi hz0 hz1 hz2 hv0
  go_enter Tryz.func17, Tryz.ntmps17
  go_wp2
  clear c0
  go_loopw [5, 6] (fun v i wr => ∃ k : Nat, k ≤ L.length ∧ i = .int .i64 k ∧ Hid (wr.ownsRow w.heap.size 9 1 v (ownL (L.take k) who).length (strCells (ownL (L.take k) who))) ∧ Hid (Below w.heap.size w wr)) (fun _ i _ => L.length - (intOf i).toNat)
  case atStart => exact ⟨0, Nat.zero_le _, rfl, hideIt (World.ownsRow_nil _ _ _ _), hideIt (Below.refl _ _)⟩
  case round =>
    obtain ⟨k, hk, rfl, HR, HB⟩ := hrel
    have c0 := (HB.out.cell (lt_of_cell HC.out)).trans HC.out
    by_cases hlt : k < L.length
    · obtain ⟨x, hx⟩ : ∃ x, L[k]? = some x := ⟨L[k], by simp [hlt]⟩
      obtain ⟨b, off, rfl, _, d0, d1⟩ := HeldsIn.at (RowIn.kept HV.out (Kept.of_below HB.out (fun k hk _ => HD.out.lt k hk.1))) hx
      have HT := hideIt (own_take (who := who) hx)
      have hown1 : (ownL (L.take k) who).length ≤ k := Nat.le_trans (own_few _ _) (by rw [List.length_take]; omega)
      have hbs := HB.out.size
      clear hx
      cases hq : x.2 == who with
      | true =>
        rw [hq] at HT
        go_wp2_with (at_builtin; refine wpList_append_own_at _ rfl _ _ 31 rfl w.heap.size 9 i0 (.string ⟨#[]⟩) 1 16 Tryz.underlying31 HI.out.1 HI.out.2.1 HI.out.2.2.1 HI.out.2.2.2 rfl (by decide) _ _ _ rfl (HR.out.alloc _) ⟨wr.heap.size, 0, none⟩ 1 1 [encStr x.1] rfl rfl (cell_one_new _ _ _) (by intro u hu; simp at hu; subst hu; rfl) (by unfold maxLen; omega) (by omega) (by simp; omega) ?_)
        intro v' w3 hown' hg3 _ _
        have HB3 := hideIt ((HB.out.alloc hbs (.cells #[.string ⟨x.1.toArray⟩] 9)).grown hg3 (by simp; omega) (fun j hj => (HR.out.lt j hj).1))
        have HO3 : Hid (w3.ownsRow w.heap.size 9 1 v' (ownL (L.take (k + 1)) who).length (strCells (ownL (L.take (k + 1)) who))) := hideIt (by
          have e : ownL (L.take (k + 1)) who = ownL (L.take k) who ++ [x.1] := HT.out
          rw [e]
          have h := hown'
          unfold strCells at h ⊢
          simpa using h)
        clear hown' hg3
        go_wp2
        exact ⟨⟨k + 1, by omega, by go_num, HO3, HB3⟩, by simp [intOf]; omega⟩
      | false =>
        rw [hq] at HT
        have HO3 : Hid (wr.ownsRow w.heap.size 9 1 u5 (ownL (L.take (k + 1)) who).length (strCells (ownL (L.take (k + 1)) who))) := hideIt (by
          have e : ownL (L.take (k + 1)) who = ownL (L.take k) who := by have := HT.out; simpa using this
          rw [e]; exact HR.out)
        go_wp2
        exact ⟨⟨k + 1, by omega, by go_num, HO3, HB⟩, by simp [intOf]; omega⟩
    · rw [List.take_of_length_le (by omega)] at HR
      go_wp2
      go_ret
      exact ⟨_, rfl, HR.out, HB.out⟩
end Go.Proofs.YtnojbejjlahhkaaGreatDoor
