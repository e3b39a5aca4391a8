/-
  What is proved here: the store's find: a key's place among entries by rising keys, by halves; over this program.
-/
import Derived.Test.YtohlepbfjgehgaaGreatDoorEA
import Derived.Test.YtohlepbfjgehgaaGreatDoorShelf
import Derived.Lib.Bytealg
namespace Go.Proofs.YtohlepbfjgehgaaGreatDoor
open Go.RowKit Go.Extern.Stop Go.Stop Go.Extern

theorem cmp_bytes : ∀ a b : List UInt8, Lib.compareBytes a b = if Op.bytesLess a b = true then -1 else if (a == b) = true then 0 else 1
  | [], [] => by simp [Lib.compareBytes, Op.bytesLess]
  | [], _ :: _ => by simp [Lib.compareBytes, Op.bytesLess]
  | _ :: _, [] => by simp [Lib.compareBytes, Op.bytesLess]
  | x :: a, y :: b => by
    have ih := cmp_bytes a b
    simp only [Lib.compareBytes, Op.bytesLess, Bool.or_eq_true, decide_eq_true_eq, Bool.and_eq_true, beq_iff_eq, List.cons.injEq] at ih ⊢
    by_cases h1 : x < y
    · simp [h1]
    · by_cases h2 : y < x
      · have hne : ¬ x = y := fun e => by subst e; exact h1 h2
        simp [h1, h2, hne]
      · have he : x = y := by
          by_cases e : x = y
          · exact e
          · rcases UInt8.lt_or_lt_of_ne e with h | h
            · exact absurd h h1
            · exact absurd h h2
        subst he
        rw [if_neg h1, if_neg h1, ih]
        simp
theorem cmp_lt {a b : List UInt8} (h : kLt a b) : Lib.compareBytes a b = -1 := by rw [cmp_bytes, if_pos (show Op.bytesLess a b = true from h)]
theorem cmp_same {a b : List UInt8} (h : (a == b) = true) : Lib.compareBytes a b = 0 := by
  obtain rfl := eq_of_beq h
  rw [cmp_bytes, if_neg (show ¬ Op.bytesLess a a = true from kLt_irrefl a), if_pos h]
theorem cmp_gt {a b : List UInt8} (h : ¬ kLt a b) (h2 : (a == b) = false) : Lib.compareBytes a b = 1 := by rw [cmp_bytes, if_neg (show ¬ Op.bytesLess a b = true from h), if_neg (by rw [h2]; decide)]
/-- keys rise -/
def Rising (l : List Ent) : Prop := ∀ (i j : Nat) a b, i < j → l[i]? = some a → l[j]? = some b → kLt a.1 b.1
/-- a is the place of a key among l, or where it would come in -/
def PlaceIs (l : List Ent) (key : List UInt8) (a : Nat) : Prop := a ≤ l.length ∧ (∀ j e, j < a → l[j]? = some e → kLt e.1 key) ∧ (∀ j e, a ≤ j → l[j]? = some e → ¬ kLt e.1 key)
/-- is the key at this place? -/
def hasAt (l : List Ent) (key : List UInt8) (a : Nat) : Bool := match l[a]? with | none => false | some e => e.1 == key

theorem sfindA_any (w : World) (x : Ent) (key : List UInt8) :
    Calls Tryz.prog 92 #[entV x, .string ⟨key.toArray⟩] w fun e w' => e = .returned (.int .i64 (Lib.compareBytes x.1 key)) ∧ Below w.heap.size w w' := by
  obtain ⟨W, hW, hwb, hws, c0, c1, c2⟩ := room3 w 42 (.string ⟨x.1.toArray⟩) (.string ⟨x.2.1.toArray⟩) (.int .i64 x.2.2)
  unfold entV
  have HB := hideIt hwb
  clear hwb hws
  go_enter Tryz.func92, Tryz.ntmps92
  go_wp2_with fail
  rw [← hW]
  clear hW
  refine (Tryz.strings_Compare _ _ W).mono ?_
  rintro e w' ⟨rfl, rfl⟩
  go_wp2
  go_ret
  exact ⟨rfl, HB.out⟩

set_option maxRecDepth 100000 in
set_option maxHeartbeats 8000000 in
theorem bsf_any (w : World) (A : Nat → Prop) (v : Value) (l : List Ent) (key : List UInt8) (hv : EntsIn w A v l) (hl : l.length ≤ 100000) (hr : Rising l) :
    Calls Tryz.prog 91 #[v, .string ⟨key.toArray⟩, .func (.func 92) #[] #[]] w fun e w' => ∃ a : Nat, e = .returned (.tuple #[.int .i64 a, .bool (hasAt l key a)]) ∧ PlaceIs l key a ∧ Below w.heap.size w w' := by
  have HV := hideIt (hv.mono (A' := (· < w.heap.size)) (fun _ _ h => h))
  obtain ⟨aa, cap, rfl⟩ := hv.form
  have HR := hideIt hr
  clear hv hr
  have hen := fun args w => (show (callFunc 92 args).run Tryz.prog w = .ok (.enter 92 args) w by first | rfl | kernel_rfl)
  go_enter Tryz.func91, Tryz.ntmps91
  go_wp2
  go_loopw [9, 10] (fun s9 s10 wr => ∃ lo hi : Nat, s9 = .int .i64 lo ∧ s10 = .int .i64 hi ∧ lo ≤ hi ∧ hi ≤ l.length ∧ Hid ((∀ j e, j < lo → l[j]? = some e → kLt e.1 key) ∧ (∀ j e, hi ≤ j → l[j]? = some e → ¬ kLt e.1 key)) ∧ Hid (Below w.heap.size w wr)) (fun s9 s10 _ => (intOf s10).toNat - (intOf s9).toNat)
  case atStart => exact ⟨0, l.length, rfl, rfl, Nat.zero_le _, Nat.le_refl _, hideIt ⟨fun j e h => by omega, fun j e h he => by have := (List.getElem?_eq_some_iff.1 he).1; omega⟩, Below.refl _ _⟩
  case round =>
    obtain ⟨lo, hi, rfl, rfl, hlh, hhn, HI, HB⟩ := hrel
    by_cases hlt : lo < hi
    · obtain ⟨h, hh⟩ : ∃ h : Nat, h = (lo + hi) / 2 := ⟨_, rfl⟩
      have h1 : lo ≤ h := by omega
      have h2 : h < hi := by omega
      have h3 : ((lo : Int) + (hi : Int)) / 2 = (h : Int) := by omega
      obtain ⟨x, hx⟩ : ∃ x, l[h]? = some x := ⟨l[h], by simp [show h < l.length by omega]⟩
      have HVr : Hid (EntsIn wr (· < w.heap.size) (.slice aa l.length cap) l) := RowIn.kept HV.out (Kept.of_below HB.out (fun _ h _ => h))
      obtain ⟨b, off, rfl, _, c0, c1, c2⟩ := EntsIn.at HVr.out hx
      have HX := hideIt hx
      clear hh hx
      go_wp2_with fail
      refine (sfindA_any wr x key).mono ?_
      rintro e w2 ⟨rfl, hb2⟩
      have HB2 := hideIt (HB.out.trans (hb2.mono HB.out.size))
      clear hb2
      by_cases hk : kLt x.1 key
      · have hc : Lib.compareBytes x.1 key = -1 := cmp_lt hk
        have HI2 : Hid ((∀ j e, j < h + 1 → l[j]? = some e → kLt e.1 key) ∧ (∀ j e, hi ≤ j → l[j]? = some e → ¬ kLt e.1 key)) := hideIt ⟨fun j e hj he => by
          by_cases hjh : j = h
          · subst hjh; rw [HX.out] at he; cases he; exact hk
          · exact kLt_trans (HR.out j h e x (by omega) he HX.out) hk, HI.out.2⟩
        rw [hc]
        clear hk
        go_wp2
        exact ⟨⟨h + 1, hi, by go_num, rfl, by omega, hhn, HI2, HB2⟩, by simp [intOf]; omega⟩
      · have HI2 : Hid ((∀ j e, j < lo → l[j]? = some e → kLt e.1 key) ∧ (∀ j e, h ≤ j → l[j]? = some e → ¬ kLt e.1 key)) := hideIt ⟨HI.out.1, fun j e hj he => by
          by_cases hjh : j = h
          · subst hjh; rw [HX.out] at he; cases he; exact hk
          · exact fun hke => hk (kLt_trans (HR.out h j x e (by omega) HX.out he) hke)⟩
        have hc : Lib.compareBytes x.1 key = 0 ∨ Lib.compareBytes x.1 key = 1 := by
          cases h : x.1 == key with
          | true => exact Or.inl (cmp_same h)
          | false => exact Or.inr (cmp_gt hk h)
        clear hk
        rcases hc with hc | hc <;> rw [hc]
        all_goals
          go_wp2
          exact ⟨⟨lo, h, rfl, rfl, by omega, by omega, HI2, HB2⟩, by simp [intOf]; omega⟩
    · obtain rfl : hi = lo := by omega
      have HP : Hid (PlaceIs l key hi) := hideIt ⟨hhn, HI.out⟩
      by_cases hn : hi < l.length
      · obtain ⟨x, hx⟩ : ∃ x, l[hi]? = some x := ⟨l[hi], by simp [hn]⟩
        have HVr : Hid (EntsIn wr (· < w.heap.size) (.slice aa l.length cap) l) := RowIn.kept HV.out (Kept.of_below HB.out (fun _ h _ => h))
        obtain ⟨b, off, rfl, _, c0, c1, c2⟩ := EntsIn.at HVr.out hx
        have HH : Hid (hasAt l key hi = (x.1 == key)) := hideIt (by unfold hasAt; rw [hx])
        clear hx
        go_wp2_with fail
        refine (sfindA_any wr x key).mono ?_
        rintro e w2 ⟨rfl, hb2⟩
        have HB2 := hideIt (HB.out.trans (hb2.mono HB.out.size))
        clear hb2
        have hc : (Lib.compareBytes x.1 key = 0 ∧ (x.1 == key) = true) ∨ ((Lib.compareBytes x.1 key = -1 ∨ Lib.compareBytes x.1 key = 1) ∧ (x.1 == key) = false) := by
          by_cases hk : kLt x.1 key
          · refine Or.inr ⟨Or.inl (cmp_lt hk), ?_⟩
            rw [beq_eq_false_iff_ne]; intro e; rw [e] at hk; exact kLt_irrefl _ hk
          · cases h : x.1 == key with
            | true => exact Or.inl ⟨cmp_same h, rfl⟩
            | false => exact Or.inr ⟨Or.inr (cmp_gt hk h), rfl⟩
        rcases hc with ⟨hc, hb⟩ | ⟨hc | hc, hb⟩ <;> rw [hc]
        case' inl => have HQ : Hid (hasAt l key hi = true) := hideIt (by rw [HH.out, hb])
        case' inr.inl => have HQ : Hid (hasAt l key hi = false) := hideIt (by rw [HH.out, hb])
        case' inr.inr => have HQ : Hid (hasAt l key hi = false) := hideIt (by rw [HH.out, hb])
        case' inl =>
          clear hb hc
          go_wp2
          refine bodyPost_ret (v := .tuple #[.int .i64 hi, .bool true]) (by simp [results, Tryz.results91, go_sem]) rfl ?_
        case' inr.inl =>
          clear hb hc
          go_wp2
          refine bodyPost_ret (v := .tuple #[.int .i64 hi, .bool false]) (by simp [results, Tryz.results91, go_sem]) rfl ?_
        case' inr.inr =>
          clear hb hc
          go_wp2
          refine bodyPost_ret (v := .tuple #[.int .i64 hi, .bool false]) (by simp [results, Tryz.results91, go_sem]) rfl ?_
        all_goals exact ⟨hi, by rw [HQ.out], HP.out, HB2.out⟩
      · have HQ : Hid (hasAt l key hi = false) := hideIt (by unfold hasAt; rw [List.getElem?_eq_none (by omega)])
        go_wp2
        refine bodyPost_ret (v := .tuple #[.int .i64 hi, .bool false]) (by simp [results, Tryz.results91, go_sem]) rfl ?_
        exact ⟨hi, by rw [HQ.out], HP.out, HB.out⟩
end Go.Proofs.YtohlepbfjgehgaaGreatDoor
