/-
  What is proved here: Any, Unlock and Keys of locks; over this program.
-/
import Derived.Test.YtnojbejjlahhkaaGreatDoorHB
import Derived.Test.YtnojbejjlahhkaaGreatDoorStep
import Derived.Test.YtnojbejjlahhkaaGreatDoorShelfS
import Derived.Sort.OwnSorted
namespace Go.Proofs.YtnojbejjlahhkaaGreatDoor
open Go.RowKit Go.Extern.Stop Go.Stop Go.Extern

theorem leq_iff (a b : List UInt8) : (Op.bytesLess a b || a == b) = !(Op.bytesLess b a) := by
  by_cases h : kLt b a
  · have h1 : Op.bytesLess a b = false := by simpa [kLt] using kLt_asymm h
    have h2 : (a == b) = false := by
      simp only [beq_eq_false_iff_ne]
      rintro rfl; exact kLt_irrefl _ h
    rw [h1, h2, show Op.bytesLess b a = true from h]; rfl
  · have h1 : Op.bytesLess b a = false := by simpa [kLt] using h
    rw [h1]
    by_cases e : a = b
    · simp [e]
    · rcases kLt_total e with h2 | h2
      · rw [show Op.bytesLess a b = true from h2]; rfl
      · exact absurd h2 h
/-- is a key from one on, and below another one? -/
def inK (fk tk s : List UInt8) : Bool := !(Op.bytesLess s fk) && (tk == [] || Op.bytesLess s tk)
theorem at_hold {L : Lk} {s : List UInt8} {n : Int} (h : ∀ zd, (DL L).atKey (.string s) zd = .lit (.int .i64 n)) : holdL L s = some n := by
  have h1 := h .nil
  rw [at_DL] at h1
  cases hh : holdL L s with
  | none => rw [hh] at h1; cases h1
  | some k => rw [hh] at h1; cases h1; rfl
theorem left_other {left : Lit → Bool} {s t : List UInt8} : (left (.string t) && !(Lit.string t).sameKey (.string s)) = false ↔ left (.string t) = false ∨ t = s := by
  cases left (.string t) <;> simp [Lit.sameKey]
theorem invK : ∀ key kl, keyOf Tryz.prog 9 key = some kl → ∃ x, key = encStr x := fun _ _ hk => by
  obtain ⟨x, hx, _⟩ := Maps.keyOf_str Tryz.underlying9 hk
  exact ⟨x, hx⟩
theorem invV : ∀ (v : Value) (y : DataW Unit × List MemPlace), plainElem Tryz.prog 3 v = some y → ∃ c, v = Value.int .i64 c := fun _ _ hv => by
  obtain ⟨c, rfl, _⟩ := plainElem_int_inv Tryz.underlying3 hv
  exact ⟨c, rfl⟩

def AnyRel (L : Lk) (fk tk : List UInt8) (left : Lit → Bool) : Prop := ∀ s n, holdL L s = some n → left (.string s) = false → inK fk tk s = false
theorem AnyRel.step {L : Lk} {fk tk : List UInt8} {left : Lit → Bool} (h : AnyRel L fk tk left) {s : List UInt8} (hs : inK fk tk s = false) : AnyRel L fk tk (fun z => left z && !z.sameKey (.string s)) := fun t n hn hl => by
  rcases left_other.1 hl with h1 | rfl
  · exact h t n hn h1
  · exact hs
theorem any_true {L : Lk} {fk tk : List UInt8} {s : List UInt8} {n : Int} (h : holdL L s = some n) (hs : inK fk tk s = true) : (L.any fun x => inK fk tk x.1) = true := List.any_eq_true.2 ⟨_, hold_mem h, hs⟩
theorem AnyRel.all {L : Lk} {fk tk : List UInt8} {left : Lit → Bool} (h : AnyRel L fk tk left) (hr : KRise L) (hl : ∀ kl, left kl = false) : (L.any fun x => inK fk tk x.1) = false := by
  rw [List.any_eq_false]
  rintro ⟨s, n⟩ hx
  have := h s n (hr.hold.1 hx) (hl _)
  simpa using this

set_option maxRecDepth 100000 in
set_option maxHeartbeats 8000000 in
theorem lkAny_any (w : World) (p : Nat) (O : Nat → Prop) (L : Lk) (fk tk : List UInt8) (h : LkSt w p O L) :
    Calls Tryz.prog 14 #[.pointer (some ⟨p, 0, none⟩), .string ⟨fk.toArray⟩, .string ⟨tk.toArray⟩] w fun e w' => e = .returned (.bool (L.any fun x => inK fk tk x.1)) ∧ Below w.heap.size w w' := by
  have HR := hideIt h.rise
  obtain ⟨m, c0, _, hm, _⟩ := h
  generalize hW : w.heap.size = r0
  go_enter Tryz.func14, Tryz.ntmps14
  go_wp2_with (first
    | (at_range; refine wpList_range_own _ rfl _ 54 rfl 9 3 keyLaw Tryz.underlying54 _ m _ _ rfl hm ?_; intro w0 hrg0 hg0 hs0)
    | go_in)
  try go_frame
  try rw [hW] at hrg0
  try rw [hW]
  go_loopw [7] (fun _ wr => ∃ (left : Lit → Bool) (cnt : Nat), wr.ranges Tryz.prog 9 (plainElem Tryz.prog 3) m r0 L.length (DL L) left cnt ∧ Hid (AnyRel L fk tk left) ∧ Hid (Below r0 w wr)) (fun _ wr => wr.rangeLeft m r0)
  case atStart =>
    refine ⟨_, _, hrg0, hideIt fun s n hn hl => ?_, hideIt ((Below.refl _ _).grown hg0 (by omega) (fun j hj => by cases hj))⟩
    rw [has_DL, hn] at hl; cases hl
  case round =>
    obtain ⟨left, cnt, hrg, HA, HB⟩ := hrel
    go_wp2_with (first
      | (at_next; refine wpList_next_ranges _ rfl _ rfl 9 keyLaw (plainElem Tryz.prog 3) encStr (Value.int .i64) invK invV m r0 L.length _ _ _ rfl hrg ?_ ?_)
      | go_in)
    · intro hc0 hl0
      have HT := hideIt (HA.out.all HR.out hl0)
      clear hc0 hl0
      go_wp2
      go_ret
      exact ⟨by rw [HT.out]; rfl, HB.out⟩
    · intro x c kl yd yp w1 cnt1 hkey hlk hv hat hrg1 hlt hg1 hs1 hen
      obtain ⟨x', ex, rfl, _⟩ := Maps.keyOf_str Tryz.underlying9 hkey
      obtain rfl : x = x' := encStr_inj ex
      obtain ⟨c', ec, hy, _⟩ := plainElem_int_inv Tryz.underlying3 hv
      obtain rfl : c = c' := by injection ec
      obtain rfl : yd = .lit (.int .i64 c) := by simpa using (congrArg Prod.fst hy)
      have HH := hideIt (at_hold hat)
      have HLT := hideIt hlt
      have HRG := hideIt hrg
      have HB1 := hideIt (HB.out.grown hg1 (by have := HB.out.size; omega) (fun j hj => by cases hj; exact Nat.le_refl _))
      clear hs1 hkey hlk hv hat hlt hrg hy ec ex hg1
      unfold encStr at hen ⊢
      have hgeq := leq_iff fk x
      cases r1 : Op.bytesLess x fk with
      | true =>
        rw [r1] at hgeq
        have HAN := hideIt (HA.out.step (s := x) (by unfold inK; rw [r1]; rfl))
        go_wp2
        go_roundw
        case rel => exact ⟨_, cnt1, hrg1, HAN, HB1⟩
        case measure => rw [hrg1.left_eq, HRG.out.left_eq]; exact HLT.out
      | false =>
        rw [r1] at hgeq
        cases r2 : tk == [] with
        | true =>
          have HT := hideIt (any_true HH.out (fk := fk) (tk := tk) (by unfold inK; rw [r1, r2]; rfl))
          go_wp2
          go_ret
          exact ⟨by rw [HT.out]; rfl, HB1.out⟩
        | false =>
          cases r3 : Op.bytesLess x tk with
          | true =>
            have HT := hideIt (any_true HH.out (fk := fk) (tk := tk) (by unfold inK; rw [r1, r2, r3]; rfl))
            go_wp2
            go_ret
            exact ⟨by rw [HT.out]; rfl, HB1.out⟩
          | false =>
            have HAN := hideIt (HA.out.step (s := x) (by unfold inK; rw [r1, r2, r3]; rfl))
            go_wp2
            go_roundw
            case rel => exact ⟨_, cnt1, hrg1, HAN, HB1⟩
            case measure => rw [hrg1.left_eq, HRG.out.left_eq]; exact HLT.out

/-- is an entry somebody's? -/
def isWho (who : Int) : Lit → DataW Unit → Bool := fun _ d => match d with | .lit (.int _ n) => n == who | _ => false
theorem del_who (L : Lk) (who : Int) : Lib.deleteFuncD (isWho who) (DL L) = DL (dropL L who) := by
  unfold Lib.deleteFuncD DL dropL
  simp only [List.filter_map]
  rfl
theorem DL_apart {L : Lk} (h : KRise L) : (L.map fun x => ((Lit.string x.1, .lit (.int .i64 x.2)) : Lit × DataW Unit)).Pairwise (fun p q => p.1 ≠ q.1) :=
  List.pairwise_map.2 (h.imp fun {a b} hab e => by
    simp only [Lit.string.injEq] at e
    rw [e] at hab
    exact kLt_irrefl _ hab)
theorem DL_keys (L : Lk) : ∀ p ∈ (L.map fun x => ((Lit.string x.1, .lit (.int .i64 x.2)) : Lit × DataW Unit)), WideAt.IsKeyLit p.1 := fun p hp => by
  obtain ⟨x, _, rfl⟩ := List.mem_map.1 hp
  trivial

set_option maxRecDepth 100000 in
set_option maxHeartbeats 8000000 in
theorem lkUnlock_any (w : World) (p : Nat) (O : Nat → Prop) (L : Lk) (who : Int) (h : LkSt w p O L) :
    Calls Tryz.prog 12 #[.pointer (some ⟨p, 0, none⟩), .int .i64 who] w fun e w' => e = .returned (.tuple #[]) ∧ LkSt w' p O (dropL L who) ∧ Turn O w w' := by
  have HA := hideIt (DL_apart h.rise)
  obtain ⟨m, c0, f0, hm, o1, o2, o3, o4⟩ := h
  have HO := hideIt (And.intro o1 (And.intro o2 (And.intro o3 o4)))
  have HF := hideIt f0
  have hpm : p ≠ m := fun e => by
    obtain ⟨es, clock, hb, _⟩ := hm
    rw [e] at c0
    simp [World.cell?, hb] at c0
  have HPM := hideIt hpm
  have hpl := lt_of_cell c0
  have hml := hm.lt
  have HC := hideIt c0
  clear o1 o2 o3 o4 f0 hpm
  generalize hW : w.heap.size = r0 at hpl hml
  obtain ⟨es0, hes0⟩ : ∃ es0, es0 = L.map fun x => ((Lit.string x.1, .lit (.int .i64 x.2)) : Lit × DataW Unit) := ⟨_, rfl⟩
  have HK := hideIt (DL_keys L)
  rw [← hes0] at HA HK
  have HES := hideIt hes0
  rw [show DL L = .map es0 by rw [hes0]; rfl] at hm
  clear hes0
  go_enter Tryz.func12, Tryz.ntmps12
  go_wp2_with (first
    | (at_range; refine wpList_range_own _ rfl _ 54 rfl 9 3 keyLaw Tryz.underlying54 _ m _ _ rfl hm ?_; intro w0 hrg0 hg0 hs0)
    | go_in)
  try go_frame
  try rw [hW] at hrg0
  try rw [hW]
  go_loopw [4] (fun _ wr => ∃ (left : Lit → Bool) (cnt : Nat), wr.ranges Tryz.prog 9 (plainElem Tryz.prog 3) m r0 L.length (Maps.Fk (isWho who) es0 left) left cnt ∧ Hid (w.grownBy wr (some m))) (fun _ wr => wr.rangeLeft m r0)
  case atStart => exact ⟨_, _, by rw [Maps.Fk_start HK.out]; exact hrg0, hideIt (hg0.but _)⟩
  case round =>
    obtain ⟨left, cnt, hrg, HG⟩ := hrel
    go_wp2_with (first
      | (at_next; refine wpList_next_ranges _ rfl _ rfl 9 keyLaw (plainElem Tryz.prog 3) encStr (Value.int .i64) invK invV m r0 L.length _ _ _ rfl hrg ?_ ?_)
      | go_in)
    · intro hc0 hl0
      have HOW := hideIt hrg.owns
      rw [Maps.Fk_end hl0, show (DataW.map es0 : DataW Unit) = DL L by rw [HES.out]; rfl, del_who] at HOW
      clear hc0 hl0 hrg
      go_wp2
      go_end0
      have hb := HG.out.block p (by rw [hW]; exact hpl) (fun e => HPM.out (Option.some.inj e))
      have hsz := HG.out.size
      refine ⟨rfl, ⟨m, (World.cell?_of_block (a := ⟨p, 0, none⟩) hb).trans HC.out, (World.frozen?_of_block (a := ⟨p, 0, none⟩) hb).trans HF.out, own_tight HOW.out (size_DL _), HO.out.1, HO.out.2.1, fun k hk => Nat.lt_of_lt_of_le (HO.out.2.2.1 k hk) hsz, ?_⟩, Turn.of_grown HG.out (fun g e _ => by cases e; exact HO.out.2.1)⟩
      have h1 := HO.out.2.2.2
      have h2 : (dropL L who).length ≤ L.length := List.length_filter_le _ _
      omega
    · intro x c kl yd yp w1 cnt1 hkey hlk hv hat hrg1 hlt hg1 hs1 hen
      obtain ⟨x', ex, rfl, hxl⟩ := Maps.keyOf_str Tryz.underlying9 hkey
      obtain rfl : x = x' := encStr_inj ex
      obtain ⟨c', ec, hy, _⟩ := plainElem_int_inv Tryz.underlying3 hv
      obtain rfl : c = c' := by injection ec
      obtain rfl : yd = .lit (.int .i64 c) := by simpa using (congrArg Prod.fst hy)
      have hgw1 := HG.out.andThen hg1 (fun j hj => by cases hj; exact Or.inl (by omega))
      have c1 := (World.cell?_of_block (a := ⟨p, 0, none⟩) (hgw1.block p (by rw [hW]; exact hpl) (fun e => HPM.out (Option.some.inj e)))).trans HC.out
      have HG1 := hideIt hgw1
      have HLT := hideIt hlt
      have HRG := hideIt hrg
      have HAT := hideIt hat
      have HLK := hideIt hlk
      have HKY := hideIt hkey
      clear hs1 hkey hlk hv hat hlt hrg hy ec ex hg1 hgw1
      unfold encStr at hen ⊢
      cases hq : c == who with
      | true =>
        go_wp2_with (first
          | (at_delete; refine wpList_delete_ranges _ rfl _ _ 54 9 rfl 3 keyLaw Tryz.underlying54 _ m r0 L.length _ _ _ rfl hrg1 _ _ rfl (key_str hxl) ?_; intro w2 cnt2 hrg2 hle hturn; go_frame)
          | go_in)
        rw [Maps.strike_twice] at hrg2
        go_roundw
        case rel => exact ⟨_, cnt2, by rw [← Maps.Fk_struck HA.out (kl := .string x) trivial HLK.out (d := .lit (.int .i64 c)) (by simpa [isWho] using hq) HAT.out]; exact hrg2, hideIt (HG1.out.andThen hturn.grown (fun j hj => by cases hj; exact Or.inr rfl))⟩
        case measure => rw [hrg2.left_eq, HRG.out.left_eq]; have := HLT.out; omega
      | false =>
        go_wp2
        go_roundw
        case rel => exact ⟨_, cnt1, by rw [← Maps.Fk_stays HA.out (kl := .string x) trivial HLK.out (d := .lit (.int .i64 c)) (by simpa [isWho] using hq) HAT.out]; exact hrg1, HG1⟩
        case measure => rw [hrg1.left_eq, HRG.out.left_eq]; exact HLT.out
end Go.Proofs.YtnojbejjlahhkaaGreatDoor
