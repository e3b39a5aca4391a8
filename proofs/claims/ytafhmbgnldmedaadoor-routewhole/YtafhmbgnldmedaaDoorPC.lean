/-
  What is proved here: route's find, holder: a piece is found by halves; over this program.
-/
import Derived.Test.YtafhmbgnldmedaaDoorPB
namespace Go.Proofs.YtafhmbgnldmedaaDoor
open Go.RowKit Go.Extern.Stop Go.Stop Go.Extern

set_option maxRecDepth 100000 in
set_option maxHeartbeats 4000000 in
theorem sSearch_any (g : Nat) (cb : Array Value) (n : Nat) (p : Nat → Bool) (w : World) (hen : ∀ args w, (callFunc g args).run Tryd.prog w = .ok (.enter g args) w) (hn : n ≤ 100000)
    (hf : ∀ W, Below w.heap.size w W → ∀ i : Nat, i < n → Calls Tryd.prog g (#[.int .i64 i] ++ cb) W fun e w' => e = .returned (.bool (p i)) ∧ Below W.heap.size W w')
    (hm : ∀ a b, a ≤ b → b < n → p a = true → p b = true) :
    Calls Tryd.prog 62 #[.int .i64 n, .func (.func g) #[] cb] w fun e w' => ∃ a : Nat, e = .returned (.int .i64 a) ∧ (a ≤ n ∧ (∀ j, j < a → p j = false) ∧ (∀ j, a ≤ j → j < n → p j = true)) ∧ Below w.heap.size w w' := by
  have HF := hideIt hf
  have HM := hideIt hm
  clear hf hm
  go_enter Tryd.func62, Tryd.ntmps62
  go_wp2
  go_loopw [5, 6] (fun s5 s6 wr => ∃ lo hi : Nat, s5 = .int .i64 lo ∧ s6 = .int .i64 hi ∧ lo ≤ hi ∧ hi ≤ n ∧ Hid ((∀ j, j < lo → p j = false) ∧ (∀ j, hi ≤ j → j < n → p j = true)) ∧ Hid (Below w.heap.size w wr)) (fun s5 s6 _ => (intOf s6).toNat - (intOf s5).toNat)
  case atStart => exact ⟨0, n, rfl, rfl, Nat.zero_le _, Nat.le_refl _, hideIt ⟨(fun j h => by omega), (fun j h he => by omega)⟩, Below.refl _ _⟩
  case round =>
    obtain ⟨lo, hi, rfl, rfl, hlh, hhn, HI, HB⟩ := hrel
    by_cases hlt : lo < hi
    · obtain ⟨h, hh⟩ : ∃ h : Nat, h = (lo + hi) / 2 := ⟨_, rfl⟩
      have h1 : lo ≤ h := by omega
      have h2 : h < hi := by omega
      have h3 : ((lo : Int) + (hi : Int)) / 2 = (h : Int) := by omega
      clear hh
      cases hp : p h with
      | false =>
        have HC := hideIt (HF.out wr HB.out h (by omega))
        rw [hp] at HC
        have HI2 : Hid ((∀ j, j < h + 1 → p j = false) ∧ (∀ j, hi ≤ j → j < n → p j = true)) := hideIt ⟨(fun j hj => by
          cases hpj : p j with
          | false => rfl
          | true => have := HM.out j h (by omega) (by omega) hpj; rw [hp] at this; cases this), HI.out.2⟩
        clear hp
        go_wp2_with fail
        refine HC.out.mono ?_
        rintro e w2 ⟨rfl, hb2⟩
        have HB2 := hideIt (HB.out.trans (hb2.mono HB.out.size))
        clear hb2
        go_wp2
        exact ⟨⟨h + 1, hi, by go_num, rfl, by omega, hhn, HI2, HB2⟩, by simp [intOf]; omega⟩
      | true =>
        have HC := hideIt (HF.out wr HB.out h (by omega))
        rw [hp] at HC
        have HI2 : Hid ((∀ j, j < lo → p j = false) ∧ (∀ j, h ≤ j → j < n → p j = true)) := hideIt ⟨HI.out.1, fun j hj hjn => HM.out h j hj hjn hp⟩
        clear hp
        go_wp2_with fail
        refine HC.out.mono ?_
        rintro e w2 ⟨rfl, hb2⟩
        have HB2 := hideIt (HB.out.trans (hb2.mono HB.out.size))
        clear hb2
        go_wp2
        exact ⟨⟨lo, h, rfl, rfl, by omega, by omega, HI2, HB2⟩, by simp [intOf]; omega⟩
    · obtain rfl : hi = lo := by omega
      have HP := hideIt (And.intro hhn HI.out)
      go_wp2
      go_ret
      exact ⟨hi, rfl, HP.out, HB.out⟩

/-- the place of the first piece that something holds of -/
def FindIs (hb : Pc → Bool) (l : List Pc) (a : Nat) : Prop := a ≤ l.length ∧ (∀ j x, j < a → l[j]? = some x → hb x = false) ∧ (∀ j x, a ≤ j → l[j]? = some x → hb x = true)
/-- a func that tells something of a piece, wherever it is called -/
structure Tells (g : Nat) (cb : Array Value) (hb : Pc → Bool) (w : World) : Prop where
  en : ∀ args w, (callFunc g args).run Tryd.prog w = .ok (.enter g args) w
  tells : ∀ W, Below w.heap.size w W → ∀ x : Pc, Calls Tryd.prog g (#[pcV x] ++ cb) W fun e w' => e = .returned (.bool (hb x)) ∧ Below W.heap.size W w'
theorem Tells.next {g : Nat} {cb : Array Value} {hb : Pc → Bool} {w w' : World} (h : Tells g cb hb w) (hbw : Below w.heap.size w w') : Tells g cb hb w' :=
  ⟨h.en, fun W hW => h.tells W (hbw.trans (hW.mono hbw.size))⟩

theorem cell_box (w : World) (t : TypeId) (x : Value) : (w.alloc (.cells #[x] t)).cell? ⟨w.heap.size, 0, none⟩ = some x := by
  rw [World.cell?_alloc_at _ _ _ _ rfl]; rfl

set_option maxRecDepth 100000 in
set_option maxHeartbeats 4000000 in
theorem rqfiA_any (g : Nat) (cb : Array Value) (hb : Pc → Bool) (w : World) (A : Nat → Prop) (v : Value) (l : List Pc) (hv : PcsIn w A v l) (hT : Tells g cb hb w) (B1 B2 : Nat) (i : Nat) (x : Pc) (hx : l[i]? = some x)
    (h1 : w.cell? ⟨B1, 0, none⟩ = some (.func (.func g) #[] cb)) (h2 : w.cell? ⟨B2, 0, none⟩ = some v) :
    Calls Tryd.prog 63 (#[.int .i64 i] ++ #[.pointer (some ⟨B1, 0, none⟩), .pointer (some ⟨B2, 0, none⟩)]) w fun e w' => e = .returned (.bool (hb x)) ∧ Below w.heap.size w w' := by
  obtain ⟨a, cap, rfl⟩ := hv.form
  have hil := (List.getElem?_eq_some_iff.1 hx).1
  obtain ⟨b, off, rfl, _, c0, c1, c2⟩ := PcsIn.at hv hx
  have HT := hideIt hT
  have hen := hT.en
  clear hv hT hx
  have HC := hideIt (fun W hW => HT.out.tells W hW x)
  unfold pcV at HC
  go_enter Tryd.func63, Tryd.ntmps63
  go_wp2_with fail
  have HBD : Hid (Below w.heap.size w w.drew) := hideIt (Below.refl _ _).drew
  go_region_with (refine (HC.out _ HBD.out).mono ?_; rintro e w3 ⟨rfl, hb3⟩; have HB3 := hideIt (HBD.out.trans hb3); clear hb3)
  all_goals
    go_wp2
    go_ret
    exact ⟨rfl, HB3.out⟩
set_option maxRecDepth 100000 in
set_option maxHeartbeats 4000000 in
theorem rqfind_any (g : Nat) (cb : Array Value) (hb : Pc → Bool) (w : World) (A : Nat → Prop) (v : Value) (l : List Pc) (hv : PcsIn w A v l) (hT : Tells g cb hb w) (hl : l.length ≤ 100000)
    (hm : ∀ (i j : Nat) a b, i ≤ j → l[i]? = some a → l[j]? = some b → hb a = true → hb b = true) :
    Calls Tryd.prog 48 #[v, .func (.func g) #[] cb] w fun e w' => ∃ a : Nat, e = .returned (.int .i64 a) ∧ FindIs hb l a ∧ Below w.heap.size w w' := by
  have HV := hideIt hv
  obtain ⟨a, cap, rfl⟩ := hv.form
  have HT := hideIt hT
  have HM := hideIt hm
  clear hv hT hm
  have hbb : Below w.heap.size w ((w.alloc (.cells #[.slice a l.length cap] 22)).alloc (.cells #[.func (.func g) #[] cb] 73)) := ((Below.refl _ _).alloc (Nat.le_refl _) _).alloc (by simp) _
  have c1 : ((w.alloc (.cells #[.slice a l.length cap] 22)).alloc (.cells #[.func (.func g) #[] cb] 73)).cell? ⟨w.heap.size, 0, none⟩ = some (.slice a l.length cap) := by
    rw [World.cell?_alloc_lt _ _ _ (by simp), cell_box]
  have c2 : ((w.alloc (.cells #[.slice a l.length cap] 22)).alloc (.cells #[.func (.func g) #[] cb] 73)).cell? ⟨w.heap.size + 1, 0, none⟩ = some (.func (.func g) #[] cb) := by
    have h := cell_box (w.alloc (.cells #[.slice a l.length cap] 22)) 73 (.func (.func g) #[] cb)
    rwa [World.size_alloc] at h
  have HS := hideIt (And.intro hbb (And.intro c1 c2))
  clear hbb c1 c2
  go_enter Tryd.func48, Tryd.ntmps48
  go_wp2_with fail
  obtain ⟨hbb, c1, c2⟩ := HS.out
  obtain ⟨W2, hW2⟩ : ∃ W2, W2 = ((w.alloc (.cells #[.slice a l.length cap] 22)).alloc (.cells #[.func (.func g) #[] cb] 73)) := ⟨_, rfl⟩
  rw [← hW2] at hbb c1 c2 ⊢
  refine (sSearch_any 63 _ l.length (fun i => match l[i]? with | some x => hb x | none => true) W2 (fun args w => (show (callFunc 63 args).run Tryd.prog w = .ok (.enter 63 args) w by first | rfl | kernel_rfl)) hl ?_ ?_).mono ?_
  · intro W hW i hi
    obtain ⟨x, hx⟩ : ∃ x, l[i]? = some x := ⟨l[i], by simp [hi]⟩
    have hb3 := hbb.trans (hW.mono hbb.size)
    have h := rqfiA_any g cb hb W A (.slice a l.length cap) l (RowIn.kept HV.out (Kept.of_all hb3)) (HT.out.next hb3) (w.heap.size + 1) w.heap.size i x hx ((hW.cell (lt_of_cell c2)).trans c2) ((hW.cell (lt_of_cell c1)).trans c1)
    rw [hx]
    exact h
  · intro i j hij hj hi
    obtain ⟨x, hx⟩ : ∃ x, l[i]? = some x := ⟨l[i]'(by omega), by simp [show i < l.length by omega]⟩
    obtain ⟨y, hy⟩ : ∃ y, l[j]? = some y := ⟨l[j], by simp [hj]⟩
    simp only [hx, hy] at hi ⊢
    exact HM.out i j x y hij hx hy hi
  · rintro e w3 ⟨n, rfl, ⟨h1, h2, h3⟩, hb3⟩
    have HF : Hid (FindIs hb l n) := hideIt ⟨h1, fun j x hj hx => by have := h2 j hj; rw [hx] at this; exact this, fun j x hj hx => by have := h3 j hj (List.getElem?_eq_some_iff.1 hx).1; rw [hx] at this; exact this⟩
    have HB3 := hideIt (hbb.trans (hb3.mono hbb.size))
    clear h1 h2 h3 hb3 c1 c2 hbb hW2 HS
    go_wp2
    go_ret
    exact ⟨n, rfl, HF.out, HB3.out⟩
set_option maxRecDepth 100000 in
set_option maxHeartbeats 4000000 in
theorem rqhoA_any (key : List UInt8) (B : Nat) (x : Pc) (w : World) (h : w.cell? ⟨B, 0, none⟩ = some (.string ⟨key.toArray⟩)) :
    Calls Tryd.prog 52 (#[pcV x] ++ #[.pointer (some ⟨B, 0, none⟩)]) w fun e w' => e = .returned (.bool (Op.bytesLess key x.1)) ∧ Below w.heap.size w w' := by
  unfold pcV
  obtain ⟨W, hW, hwb, _, c0, c1, c2⟩ := room3 w 39 (.string ⟨x.1.toArray⟩) (.int .i64 x.2.1) (.int .i64 x.2.2)
  have d0 := (hwb.cell (lt_of_cell h)).trans h
  have HB := hideIt hwb
  have q1 := leq_iff x.1 key
  clear hwb
  subst hW
  go_enter Tryd.func52, Tryd.ntmps52
  go_wp2
  go_ret
  exact ⟨by simp, HB.out⟩
set_option maxRecDepth 100000 in
set_option maxHeartbeats 4000000 in
theorem rqwiA_any (key : List UInt8) (B : Nat) (x : Pc) (w : World) (h : w.cell? ⟨B, 0, none⟩ = some (.string ⟨key.toArray⟩)) :
    Calls Tryd.prog 49 (#[pcV x] ++ #[.pointer (some ⟨B, 0, none⟩)]) w fun e w' => e = .returned (.bool (!(Op.bytesLess x.1 key))) ∧ Below w.heap.size w w' := by
  unfold pcV
  obtain ⟨W, hW, hwb, _, c0, c1, c2⟩ := room3 w 39 (.string ⟨x.1.toArray⟩) (.int .i64 x.2.1) (.int .i64 x.2.2)
  have d0 := (hwb.cell (lt_of_cell h)).trans h
  have HB := hideIt hwb
  have q1 := leq_iff x.1 key
  clear hwb
  subst hW
  go_enter Tryd.func49, Tryd.ntmps49
  go_wp2
  go_ret
  exact ⟨by simp, HB.out⟩
set_option maxRecDepth 100000 in
theorem tells_above (key : List UInt8) (B : Nat) (w : World) (h : w.cell? ⟨B, 0, none⟩ = some (.string ⟨key.toArray⟩)) : Tells 52 #[.pointer (some ⟨B, 0, none⟩)] (fun x => Op.bytesLess key x.1) w :=
  ⟨fun args w => (show (callFunc 52 args).run Tryd.prog w = .ok (.enter 52 args) w by first | rfl | kernel_rfl), fun W hW x => rqhoA_any key B x W ((hW.cell (lt_of_cell h)).trans h)⟩
set_option maxRecDepth 100000 in
theorem tells_from (key : List UInt8) (B : Nat) (w : World) (h : w.cell? ⟨B, 0, none⟩ = some (.string ⟨key.toArray⟩)) : Tells 49 #[.pointer (some ⟨B, 0, none⟩)] (fun x => !(Op.bytesLess x.1 key)) w :=
  ⟨fun args w => (show (callFunc 49 args).run Tryd.prog w = .ok (.enter 49 args) w by first | rfl | kernel_rfl), fun W hW x => rqwiA_any key B x W ((hW.cell (lt_of_cell h)).trans h)⟩
theorem hold_of {l : List Pc} {key : List UInt8} {a : Nat} (hl : Lin l) (h : FindIs (fun x => Op.bytesLess key x.1) l a) : ∃ b, a = b + 1 ∧ HoldIs l key b := by
  obtain ⟨h1, h2, h3⟩ := h
  have hpos : 0 < l.length := List.length_pos_iff.2 hl.one
  have ha : a ≠ 0 := fun e => by
    subst e
    have h4 : Op.bytesLess key l[0].1 = true := h3 0 _ (Nat.le_refl _) (List.getElem?_eq_getElem hpos)
    have h5 := hl.first _ (List.getElem?_eq_getElem hpos)
    rw [h5] at h4
    exact kLt_nil key h4
  obtain ⟨b, rfl⟩ : ∃ b, a = b + 1 := ⟨a - 1, by omega⟩
  refine ⟨b, rfl, by omega, ?_, fun j x hj hx => h3 j x (by omega) hx⟩
  intro j x hj hx hk
  have h6 : Op.bytesLess key x.1 = false := h2 j x (by omega) hx
  rw [show Op.bytesLess key x.1 = true from hk] at h6; cases h6
set_option maxRecDepth 100000 in
set_option maxHeartbeats 4000000 in
theorem rqholder_any (w : World) (A : Nat → Prop) (v : Value) (l : List Pc) (key : List UInt8) (hv : PcsIn w A v l) (hlin : Lin l) (hl : l.length ≤ 100000) :
    Calls Tryd.prog 37 #[v, .string ⟨key.toArray⟩] w fun e w' => ∃ a : Nat, e = .returned (.int .i64 a) ∧ HoldIs l key a ∧ Below w.heap.size w w' := by
  obtain ⟨W, hW⟩ : ∃ W, W = w.alloc (.cells #[.string ⟨key.toArray⟩] 9) := ⟨_, rfl⟩
  have hbb : Below w.heap.size w W := by rw [hW]; exact (Below.refl _ _).alloc (Nat.le_refl _) _
  have c1 : W.cell? ⟨w.heap.size, 0, none⟩ = some (.string ⟨key.toArray⟩) := by rw [hW, cell_box]
  have HF := hideIt (rqfind_any 52 _ _ W A v l (RowIn.kept hv (Kept.of_all hbb)) (tells_above key _ W c1) hl (fun i j a b hij ha hb h => by
    by_cases e : i = j
    · subst e; rw [ha] at hb; cases hb; exact h
    · exact kLt_trans h (hlin.rise.at (by omega) ha hb)))
  have HB := hideIt hbb
  have HL := hideIt hlin
  have HWW := hideIt hW
  clear hv hlin hbb c1 hW
  go_enter Tryd.func37, Tryd.ntmps37
  go_wp2_with fail
  rw [← HWW.out]
  refine HF.out.mono ?_
  rintro e w1 ⟨n, rfl, hf, hb1⟩
  obtain ⟨b, hbn, hh⟩ := hold_of HL.out hf
  have hle : b ≤ 100000 := by have := hh.1; omega
  have hwn : IntKind.i64.wrap ((n : Int) - 1) = (b : Int) := by rw [show (n : Int) - 1 = (b : Int) by omega]; simp [IntKind.wrap, IntKind.bits, IntKind.signed]; omega
  have hnn : (n : Int) ≤ 1000000 := by omega
  clear hbn
  have HH := hideIt (And.intro hh (HB.out.trans (hb1.mono HB.out.size)))
  clear hf hb1 hh
  go_wp2
  go_ret
  exact ⟨b, rfl, HH.out.1, HH.out.2⟩
end Go.Proofs.YtafhmbgnldmedaaDoor
