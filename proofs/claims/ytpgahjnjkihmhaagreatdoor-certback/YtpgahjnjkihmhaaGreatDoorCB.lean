/-
  What is proved here: cert's firstWrong of ints, Check, Make, over this program.
-/
import Derived.Test.YtpgahjnjkihmhaaGreatDoorCA
import Derived.Laws.ResultCell
namespace Go.Proofs.YtpgahjnjkihmhaaGreatDoor
open Go.RowKit Go.Extern.Stop Go.Stop Go.Extern

set_option maxRecDepth 100000 in
set_option maxHeartbeats 8000000 in
theorem cfwI_any (w : World) (p qc qs : Nat) (O A : Nat → Prop) (L : List (Int × Int)) (g d : Int) (v : Value) (S : List Int) (h : Hold w p qc qs O A L g d v S) (hd : fits d) (hl : S.length ≤ maxLen) :
    Calls Tryz.prog 32 #[v, .func (.func 33) #[] #[.pointer (some ⟨qc, 0, none⟩), .pointer (some ⟨qs, 0, none⟩)]] w fun e w' => ∃ er, e = .returned er ∧ ErrAs (w.heap.size ≤ ·) w' er ((wrongTo L g d S S.length).map fun x => (x.1, ⟨#[115, 105, 103, 110, 101, 114]⟩, (x.2 : Int))) ∧ Below w.heap.size w w' := by
  have H := hideIt h
  have HD := hideIt hd
  have HL := hideIt hl
  unfold maxLen at hl
  obtain ⟨a, cap, rfl⟩ := h.nums.form
  clear h hd
  go_enter Tryz.func32, Tryz.ntmps32
  go_wp2
  go_loopw [10] (fun i wr => ∃ k : Nat, k ≤ S.length ∧ i = .int .i64 k ∧ Hid (wrongTo L g d S k = none) ∧ Hid (Below w.heap.size w wr)) (fun i _ => S.length - (intOf i).toNat)
  case atStart => exact ⟨0, Nat.zero_le _, rfl, rfl, Below.refl _ _⟩
  case round =>
    obtain ⟨k, hk, rfl, HN, HB⟩ := hrel
    by_cases hlt : k < S.length
    · obtain ⟨x, hx⟩ : ∃ x, S[k]? = some x := ⟨S[k], by simp [hlt]⟩
      have HR := hideIt (H.out.next HB.out)
      obtain ⟨b, off, rfl, _, cx⟩ := HR.out.nums.at hx
      have HX := hideIt hx
      obtain ⟨n, hn⟩ : ∃ n, whyS L g d S k x = n := ⟨_, rfl⟩
      have HC := hideIt (cChe1_any wr p qc qs O A L g d _ S k x HR.out HD.out hx HL.out)
      rw [hn] at HC
      have HW : Hid (wrongTo L g d S (k + 1) = if n = 0 then none else some (n, k)) := hideIt (by unfold wrongTo; rw [HN.out, HX.out]; simp only [Option.getD_some]; rw [hn])
      clear hx hn
      go_wp2_with fail
      refine HC.out.mono ?_
      rintro e w1 ⟨rfl, hb1⟩
      have HB1 := hideIt (HB.out.trans (hb1.mono HB.out.size))
      clear hb1 HC HR
      by_cases hn0 : n = 0
      · subst hn0
        have HW2 : Hid (wrongTo L g d S (k + 1) = none) := hideIt (by rw [HW.out, if_pos rfl])
        clear HW
        go_wp2
        go_roundw
        case rel => exact ⟨k + 1, by omega, by go_num, HW2.out, HB1.out⟩
        case measure => simp [intOf]; omega
      · have HW2 : Hid (wrongTo L g d S S.length = some (n, k)) := hideIt (by
          have h1 := HW.out
          rw [if_neg hn0] at h1
          have h2 := wrongTo_stays h1 (S.length - (k + 1))
          rw [show k + 1 + (S.length - (k + 1)) = S.length by omega] at h2
          exact h2)
        have hn1 : (n == 0) = false := by simpa using hn0
        have HN1 := hideIt hn1
        clear HW hn0
        go_wp2_with fail
        refine (Of_err n HN1.out _).mono ?_
        rintro e w2 ⟨rfl, rfl⟩
        go_wp2_with fail
        refine (Wrap_some 61 (.int .i64 n) _ _ _).mono ?_
        rintro e w3 ⟨rfl, rfl⟩
        go_wp2
        go_ret
        refine ⟨_, rfl, ?_, HB1.out.trans (((Below.refl _ _).alloc (Nat.le_refl _) _).mono HB1.out.size)⟩
        rw [HW2.out]
        refine ⟨w2.heap.size, rfl, HB1.out.size, ?_, ?_, ?_⟩
        · rw [World.cell?_alloc_at _ _ _ _ rfl]; rfl
        · rw [World.cell?_alloc_at _ _ _ _ rfl]; rfl
        · rw [World.cell?_alloc_at _ _ _ _ rfl]; rfl
    · have ek : k = S.length := by omega
      have HW2 : Hid (wrongTo L g d S S.length = none) := hideIt (by rw [← ek]; exact HN.out)
      clear HN ek
      go_wp2
      go_ret
      exact ⟨_, rfl, by rw [HW2.out]; rfl, HB.out⟩

theorem hold_new (w : World) (p : Nat) (O A : Nat → Prop) (L : List (Int × Int)) (g d : Int) (v : Value) (S : List Int) (t u : TypeId) (hs : SealSt w p O L) (hv : NumsIn w A v S) :
    Hold ((w.alloc (.cells #[.pointer (some ⟨p, 0, none⟩)] t)).alloc (.cells #[.int .i64 g, .int .i64 d, v] u)) p (w.heap.size + 1) w.heap.size O A L g d v S ∧ Below w.heap.size w ((w.alloc (.cells #[.pointer (some ⟨p, 0, none⟩)] t)).alloc (.cells #[.int .i64 g, .int .i64 d, v] u)) := by
  have hb : Below w.heap.size w ((w.alloc (.cells #[.pointer (some ⟨p, 0, none⟩)] t)).alloc (.cells #[.int .i64 g, .int .i64 d, v] u)) := ((Below.refl _ _).alloc (Nat.le_refl _) _).alloc (by simp) _
  have e1 : w.heap.size + 1 = (w.alloc (.cells #[.pointer (some ⟨p, 0, none⟩)] t)).heap.size := by simp
  refine ⟨⟨hs.kept (Kept.of_all hb), RowIn.kept hv (Kept.of_all hb), ?_, ?_, ?_, ?_⟩, hb⟩
  · rw [World.cell?_alloc_at _ _ _ _ e1]; rfl
  · rw [World.cell?_alloc_at _ _ _ _ e1]; rfl
  · rw [World.cell?_alloc_at _ _ _ _ e1]; rfl
  · have h2 : (w.alloc (.cells #[.pointer (some ⟨p, 0, none⟩)] t)).cell? ⟨w.heap.size, 0, none⟩ = some (.pointer (some ⟨p, 0, none⟩)) := by rw [World.cell?_alloc_at _ _ _ _ rfl]; rfl
    have h3 : Below (w.alloc (.cells #[.pointer (some ⟨p, 0, none⟩)] t)).heap.size (w.alloc (.cells #[.pointer (some ⟨p, 0, none⟩)] t)) ((w.alloc (.cells #[.pointer (some ⟨p, 0, none⟩)] t)).alloc (.cells #[.int .i64 g, .int .i64 d, v] u)) := (Below.refl _ _).alloc (Nat.le_refl _) _
    exact (h3.cell (lt_of_cell h2)).trans h2

set_option maxRecDepth 100000 in
set_option maxHeartbeats 8000000 in
theorem cCheck_any (w : World) (p : Nat) (O A : Nat → Prop) (L : List (Int × Int)) (g d : Int) (v : Value) (S : List Int) (need : Int) (hs : SealSt w p O L) (hv : NumsIn w A v S) (hd : fits d) (hl : S.length ≤ maxLen) :
    Calls Tryz.prog 10 #[.pointer (some ⟨p, 0, none⟩), .agg #[.int .i64 g, .int .i64 d, v], .int .i64 need] w fun e w' => ∃ er, e = .returned er ∧ ErrAs (w.heap.size ≤ ·) w' er (chk L g d S need) ∧ Below w.heap.size w w' := by
  have HD := hideIt hd
  have HL := hideIt hl
  have HN := hideIt (hold_new w p O A L g d v S 35 24 hs hv)
  obtain ⟨a, cap, rfl⟩ := hv.form
  clear hs hv hd hl
  go_enter Tryz.func10, Tryz.ntmps10
  go_wp2_with fail
  obtain ⟨w2, hw2⟩ : ∃ w2, ((w.alloc (Obj.cells #[Value.pointer (some ⟨p, 0, none⟩)] 35)).alloc (Obj.cells #[Value.int .i64 g, Value.int .i64 d, Value.slice a S.length cap] 24)) = w2 := ⟨_, rfl⟩
  rw [hw2] at HN ⊢
  clear hw2
  have hq := HN.out.1.c2
  refine (cfwI_any _ p _ _ O A L g d _ S HN.out.1 HD.out HL.out).mono ?_
  rintro e w3 ⟨er, rfl, he, hb3⟩
  have HB3 := hideIt (HN.out.2.trans (hb3.mono HN.out.2.size))
  have hq3 := (hb3.cell (lt_of_cell hq)).trans hq
  have hsz : w.heap.size ≤ w2.heap.size := HN.out.2.size
  have HSZ := hideIt hsz
  have HE := hideIt he
  have hform := he.form
  clear he hb3 hq hsz
  cases hw : wrongTo L g d S S.length with
  | some x =>
    obtain ⟨n, k⟩ := x
    rw [hw] at hform HE
    have HC : Hid (chk L g d S need = some (n, ⟨#[115, 105, 103, 110, 101, 114]⟩, (k : Int))) := hideIt (by unfold chk; rw [hw])
    rcases hform with ⟨h1, _⟩ | ⟨_, ty, y, rfl⟩
    · simp at h1
    · clear hw
      go_wp2
      go_ret
      refine ⟨_, rfl, ?_, HB3.out⟩
      rw [HC.out]
      exact ErrAs.mono HE.out (fun j hj _ => Nat.le_trans HSZ.out hj)
  | none =>
    rw [hw] at hform HE
    rcases hform with ⟨_, rfl⟩ | ⟨h1, _⟩
    · by_cases hf : need < 1 ∨ (S.length : Int) < need
      · have HC : Hid (chk L g d S need = some (51, ⟨#[99, 104, 101, 99, 107]⟩, (S.length : Int))) := hideIt (by unfold chk; rw [hw]; exact if_pos hf)
        have HF := hideIt hf
        clear hw hf
        go_wp2_with fail
        refine (enough_few _ _ _ _ HF.out).mono ?_
        rintro e w4 ⟨er, rfl, ho, hb4⟩
        have HO := hideIt ho
        have HB4 := hideIt (HB3.out.trans (hb4.mono HB3.out.size))
        obtain ⟨ty, y, rfl⟩ := ho.iface
        clear ho hb4
        go_wp2
        go_ret
        refine ⟨_, rfl, ?_, HB4.out⟩
        rw [HC.out]
        exact One.mono HO.out (fun j hj _ => by rw [hj]; exact HB3.out.size)
      · have HC : Hid (chk L g d S need = none) := hideIt (by unfold chk; rw [hw]; exact if_neg hf)
        have HF := hideIt hf
        clear hw hf
        go_wp2_with fail
        refine (enough_ok _ _ _ _ HF.out).mono ?_
        rintro e w4 ⟨rfl, rfl⟩
        go_wp2
        go_ret
        exact ⟨_, rfl, by rw [HC.out]; rfl, HB3.out⟩
    · exact absurd rfl h1

/-- a Cert's room, just made -/
theorem room_new (w : World) (t : TypeId) (x y z : Value) : ∃ W, W = w.alloc (.cells #[x, y, z] t) ∧ Below w.heap.size w W ∧ W.heap.size = w.heap.size + 1 ∧ W.cell? ⟨w.heap.size, 0, none⟩ = some x ∧ W.cell? ⟨w.heap.size, 1, none⟩ = some y ∧ W.cell? ⟨w.heap.size, 2, none⟩ = some z ∧ W.frozen? ⟨w.heap.size, 0, none⟩ = false ∧ W.frozen? ⟨w.heap.size, 1, none⟩ = false ∧ W.frozen? ⟨w.heap.size, 2, none⟩ = false := by
  refine ⟨_, rfl, (Below.refl _ _).alloc (Nat.le_refl _) _, by simp, ?_, ?_, ?_, World.frozen?_alloc_at _ _ _ _ rfl, World.frozen?_alloc_at _ _ _ _ rfl, World.frozen?_alloc_at _ _ _ _ rfl⟩
  · rw [World.cell?_alloc_at _ _ _ _ rfl]; rfl
  · rw [World.cell?_alloc_at _ _ _ _ rfl]; rfl
  · rw [World.cell?_alloc_at _ _ _ _ rfl]; rfl

/-- a Cert's room, written -/
theorem room_set (w : World) (q : Nat) (x y z X Y Z : Value) (c0 : w.cell? ⟨q, 0, none⟩ = some x) (c1 : w.cell? ⟨q, 1, none⟩ = some y) (c2 : w.cell? ⟨q, 2, none⟩ = some z) :
    ∃ W, W = ((w.setCell ⟨q, 0, none⟩ X).setCell ⟨q, 1, none⟩ Y).setCell ⟨q, 2, none⟩ Z ∧ W.cell? ⟨q, 0, none⟩ = some X ∧ W.cell? ⟨q, 1, none⟩ = some Y ∧ W.cell? ⟨q, 2, none⟩ = some Z ∧ (∀ A : Nat → Prop, ¬ A q → Kept A w W) ∧ ∀ B w0, Below B w0 w → B ≤ q → Below B w0 W := by
  have n01 : (⟨q, 0, none⟩ : Addr) ≠ ⟨q, 1, none⟩ := by simp
  have n02 : (⟨q, 0, none⟩ : Addr) ≠ ⟨q, 2, none⟩ := by simp
  have n12 : (⟨q, 1, none⟩ : Addr) ≠ ⟨q, 2, none⟩ := by simp
  have a0 := World.cell?_setCell_same w ⟨q, 0, none⟩ X c0
  have a1 : (w.setCell ⟨q, 0, none⟩ X).cell? ⟨q, 1, none⟩ = some y := (World.cell?_setCell_other _ _ _ _ n01).trans c1
  have a2 : (w.setCell ⟨q, 0, none⟩ X).cell? ⟨q, 2, none⟩ = some z := (World.cell?_setCell_other _ _ _ _ n02).trans c2
  have b0 : ((w.setCell ⟨q, 0, none⟩ X).setCell ⟨q, 1, none⟩ Y).cell? ⟨q, 0, none⟩ = some X := (World.cell?_setCell_other _ _ _ _ n01.symm).trans a0
  have b1 := World.cell?_setCell_same _ ⟨q, 1, none⟩ Y a1
  have b2 : ((w.setCell ⟨q, 0, none⟩ X).setCell ⟨q, 1, none⟩ Y).cell? ⟨q, 2, none⟩ = some z := (World.cell?_setCell_other _ _ _ _ n12).trans a2
  refine ⟨_, rfl, (World.cell?_setCell_other _ _ _ _ n02.symm).trans b0, (World.cell?_setCell_other _ _ _ _ n12.symm).trans b1, World.cell?_setCell_same _ ⟨q, 2, none⟩ Z b2, fun A hA k hk _ => ?_, fun B w0 hb hq => ((hb.setCell (p := ⟨q, 0, none⟩) hq X).setCell (p := ⟨q, 1, none⟩) hq Y).setCell (p := ⟨q, 2, none⟩) hq Z⟩
  have hne : k ≠ q := fun e => hA (e ▸ hk)
  rw [Below.heap_setCell _ ⟨q, 2, none⟩ _ _ hne, Below.heap_setCell _ ⟨q, 1, none⟩ _ _ hne, Below.heap_setCell _ ⟨q, 0, none⟩ _ _ hne]

/-- what Make needs -/
theorem cMake_few (w : World) (p : Nat) (O : Nat → Prop) (L : List (Int × Int)) (g d need : Int) (hs : SealSt w p O L) (hd : fits d) (hf : need < 1 ∨ ((whoTo L g d 10).length : Int) < need) :
    Calls Tryz.prog 9 #[.pointer (some ⟨p, 0, none⟩), .int .i64 g, .int .i64 d, .int .i64 need] w fun e w' => ∃ er, e = .returned (.tuple #[.agg #[.int .i64 0, .int .i64 0, .slice none 0 0], er]) ∧ One w' (w.heap.size ≤ ·) er 51 ⟨#[109, 97, 107, 101]⟩ ((whoTo L g d 10).length : Int) ∧ Below w.heap.size w w' := by
  have HS := hideIt hs
  have HD := hideIt hd
  obtain ⟨N, hN⟩ : ∃ N, (whoTo L g d 10).length = N := ⟨_, rfl⟩
  have HN := hideIt hN
  rw [hN] at hf ⊢
  have HF := hideIt hf
  obtain ⟨W, hW, hwb, hws, c0, c1, c2, f0, f1, f2⟩ := room_new w 24 (.int .i64 0) (.int .i64 0) (.slice none 0 0)
  have HS0 := hideIt (HS.out.kept (Kept.of_all hwb))
  have HWB := hideIt hwb
  clear hs hd hf hwb
  go_enter Tryz.func9, Tryz.ntmps9
  go_wp2_with fail
  rw [← hW]
  clear hW
  refine (sWho_any _ p O L g d HS0.out HD.out).mono ?_
  rintro e w1 ⟨v, rfl, hr, hb⟩
  have HB := hideIt (HWB.out.trans (hb.mono HWB.out.size))
  have hq : w.heap.size < W.heap.size := by omega
  have hq1 : w.heap.size < w1.heap.size := Nat.lt_of_lt_of_le hq hb.size
  have d0 := (hb.cell (p := ⟨w.heap.size, 0, none⟩) hq).trans c0
  have d1 := (hb.cell (p := ⟨w.heap.size, 1, none⟩) hq).trans c1
  have d2 := (hb.cell (p := ⟨w.heap.size, 2, none⟩) hq).trans c2
  have g0 := (hb.frozen (p := ⟨w.heap.size, 0, none⟩) hq).trans f0
  have g1 := (hb.frozen (p := ⟨w.heap.size, 1, none⟩) hq).trans f1
  have g2 := (hb.frozen (p := ⟨w.heap.size, 2, none⟩) hq).trans f2
  clear c0 c1 c2 f0 f1 f2 hws
  obtain ⟨a, cap, rfl⟩ := own_form hr
  rw [hN]
  clear hr hb hN
  go_wp2_with fail
  refine (enough_few _ _ _ _ HF.out).mono ?_
  rintro e w2 ⟨er, rfl, ho, hb2⟩
  have HO := hideIt ho
  have HB2 := hideIt (HB.out.trans (hb2.mono HB.out.size))
  have c0 := (hb2.cell (p := ⟨w.heap.size, 0, none⟩) hq1).trans d0
  have c1 := (hb2.cell (p := ⟨w.heap.size, 1, none⟩) hq1).trans d1
  have c2 := (hb2.cell (p := ⟨w.heap.size, 2, none⟩) hq1).trans d2
  have f0 := (hb2.frozen (p := ⟨w.heap.size, 0, none⟩) hq1).trans g0
  have f1 := (hb2.frozen (p := ⟨w.heap.size, 1, none⟩) hq1).trans g1
  have f2 := (hb2.frozen (p := ⟨w.heap.size, 2, none⟩) hq1).trans g2
  clear d0 d1 d2 g0 g1 g2
  obtain ⟨ty, y, rfl⟩ := ho.iface
  clear ho hb2
  go_wp2
  obtain ⟨W3, hW3, e0, e1, e2, hk3, hb3⟩ := room_set w2 w.heap.size _ _ _ (.int .i64 0) (.int .i64 0) (.slice none 0 0) c0 c1 c2
  rw [← hW3]
  have HK3 := hideIt hk3
  have HB3 := hideIt (hb3 _ _ HB2.out (Nat.le_refl _))
  clear hW3 hk3 hb3 c0 c1 c2 f0 f1 f2
  refine bodyPost_ret (v := .tuple #[.agg #[.int .i64 0, .int .i64 0, .slice none 0 0], .iface ty y]) (by simp [results, Tryz.results9, go_sem, e0, e1, e2]) rfl ?_
  exact ⟨_, rfl, One.mono (One.kept HO.out (HK3.out _ (by omega))) (fun j hj _ => by rw [hj]; exact HB.out.size), HB3.out⟩
theorem cMake_ok (w : World) (p : Nat) (O : Nat → Prop) (L : List (Int × Int)) (g d : Int) (n : Nat) (hs : SealSt w p O L) (hd : fits d) (h1 : 1 ≤ n) (h2 : n ≤ (whoTo L g d 10).length) :
    Calls Tryz.prog 9 #[.pointer (some ⟨p, 0, none⟩), .int .i64 g, .int .i64 d, .int .i64 n] w fun e w' => ∃ a cap, e = .returned (.tuple #[.agg #[.int .i64 g, .int .i64 d, .slice a n cap], .nilIface]) ∧ NumsIn w' (w.heap.size ≤ ·) (.slice a n cap) ((whoTo L g d 10).take n) ∧ Below w.heap.size w w' := by
  have HS := hideIt hs
  have HD := hideIt hd
  obtain ⟨N, hN⟩ : ∃ N, (whoTo L g d 10).length = N := ⟨_, rfl⟩
  have hN10 : N ≤ 10 := by rw [← hN]; exact whoTo_le _ _ _ _
  have HN := hideIt hN
  rw [hN] at h2
  obtain ⟨W, hW, hwb, hws, c0, c1, c2, f0, f1, f2⟩ := room_new w 24 (.int .i64 0) (.int .i64 0) (.slice none 0 0)
  have HS0 := hideIt (HS.out.kept (Kept.of_all hwb))
  have HWB := hideIt hwb
  clear hs hd hwb
  go_enter Tryz.func9, Tryz.ntmps9
  go_wp2_with fail
  rw [← hW]
  clear hW
  refine (sWho_any _ p O L g d HS0.out HD.out).mono ?_
  rintro e w1 ⟨v, rfl, hr, hb⟩
  have HB := hideIt (HWB.out.trans (hb.mono HWB.out.size))
  have hq : w.heap.size < W.heap.size := by omega
  have hq1 : w.heap.size < w1.heap.size := Nat.lt_of_lt_of_le hq hb.size
  have d0 := (hb.cell (p := ⟨w.heap.size, 0, none⟩) hq).trans c0
  have d1 := (hb.cell (p := ⟨w.heap.size, 1, none⟩) hq).trans c1
  have d2 := (hb.cell (p := ⟨w.heap.size, 2, none⟩) hq).trans c2
  have g0 := (hb.frozen (p := ⟨w.heap.size, 0, none⟩) hq).trans f0
  have g1 := (hb.frozen (p := ⟨w.heap.size, 1, none⟩) hq).trans f1
  have g2 := (hb.frozen (p := ⟨w.heap.size, 2, none⟩) hq).trans f2
  have hws' : W.heap.size = w.heap.size + 1 := hws
  clear c0 c1 c2 f0 f1 f2 hws
  rw [hN] at hr
  obtain ⟨b, cap, hcap, rfl⟩ : ∃ b cap, N ≤ cap ∧ v = .slice (some ⟨b, 0, none⟩) N cap := by
    obtain ⟨_, h3⟩ := hr
    rcases h3 with ⟨_, h3⟩ | ⟨g', cap, cur, e, _, _, hle, _⟩
    · omega
    · exact ⟨g', cap, hle, e⟩
  have HR := hideIt hr
  clear hr hb hN
  go_wp2_with fail
  refine (enough_ok _ _ _ _ (by omega)).mono ?_
  rintro e w2 ⟨rfl, rfl⟩
  go_wp2
  obtain ⟨W3, hW3, e0, e1, e2, hk3, hb3⟩ := room_set w2 w.heap.size _ _ _ (.int .i64 g) (.int .i64 d) (.slice (some ⟨b, 0, none⟩) n cap) d0 d1 d2
  rw [← hW3]
  have HK3 := hideIt hk3
  have HB3 := hideIt (hb3 _ _ HB.out (Nat.le_refl _))
  clear hW3 hk3 hb3 d0 d1 d2 g0 g1 g2
  refine bodyPost_ret (v := .tuple #[.agg #[.int .i64 g, .int .i64 d, .slice (some ⟨b, 0, none⟩) n cap], .nilIface]) (by simp [results, Tryz.results9, go_sem, e0, e1, e2]) rfl ?_
  refine ⟨some ⟨b, 0, none⟩, cap, rfl, RowIn.mono (A := fun k => w.heap.size < k) (RowIn.kept ?_ (HK3.out _ (by omega))) (fun k hk _ => by omega), HB3.out⟩
  have hl : ((whoTo L g d 10).take n).length = n := by rw [List.length_take, HN.out]; omega
  refine ⟨some ⟨b, 0, none⟩, cap, by rw [hl], (fun e => nomatch e), fun k x hx => ⟨b, 0, rfl, by have := (HR.out.lt b rfl).1; omega, ?_⟩⟩
  have hk : k < n := by
    have := (List.getElem?_eq_some_iff.1 hx).1
    simp only [numCells, List.length_map, List.length_take] at this
    omega
  have hx2 : (numCells (whoTo L g d 10))[k]? = some x := by
    simp only [numCells, List.map_take] at hx ⊢
    rw [List.getElem?_take_of_lt hk] at hx
    exact hx
  have := HR.out.cells (g := b) rfl k x hx2
  rw [addr_add] at this
  exact this
end Go.Proofs.YtpgahjnjkihmhaaGreatDoor
