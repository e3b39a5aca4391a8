/-
  What is proved here: the walk of cohortlaw03.BookTells, over this program.
-/
import Derived.Test.YtongebdafjedjaaDoorBF
import Derived.Test.YtongebdafjedjaaDoorSame
import Derived.Test.YtongebdafjedjaaDoorLGrows
import Derived.Deep.RegionHeldLaw
import Derived.Deep.RegionHeld3
namespace Go.Proofs.YtongebdafjedjaaDoor
open Go.RowKit Go.Extern.Stop Go.Stop Go.Extern

theorem DBSt.len {w : World} {q : Nat} {O : Nat → Prop} {T : List (List UInt8)} (h : DBSt w q O T) : ∃ a cap, w.cell? ⟨q, 0, none⟩ = some (.slice a T.length cap) := by
  obtain ⟨v, vs, c0, _, hr, _⟩ := h
  obtain ⟨a, cap, rfl⟩ := own_form hr
  exact ⟨a, cap, c0⟩
/-- the document's Book, just made -/
theorem DBSt.fresh (w : World) : DBSt (w.alloc (.cells #[.slice none 0 0] 30)) w.heap.size (fun k => k = w.heap.size) [] := by
  refine ⟨.slice none 0 0, [], by simp, ?_, World.ownsRow_nil _ _ _ _, fun k s u h => by simp at h, rfl, (fun g hg => nomatch hg), by decide, by simp⟩
  exact World.frozen?_alloc_at _ _ _ _ rfl
theorem own_at {w : World} {B e n g : Nat} {v : Value} {xs : List Value} (h : w.ownsRow B e 1 v n xs) (hg : v.ownBlock = some g) : ∃ cap, v = .slice (some ⟨g, 0, none⟩) n cap ∧ n ≤ cap ∧ B ≤ g ∧ g < w.heap.size := by
  have h1 := h.lt g hg
  rcases h.2 with ⟨rfl, _⟩ | ⟨g', cap, cur, rfl, _, _, hc, _⟩
  · cases hg
  · cases hg; exact ⟨cap, rfl, hc, h1⟩
theorem Free.of_own {w : World} {B g cap : Nat} {s : List UInt8} (h : w.ownsRow B 5 1 (.slice (some ⟨g, 0, none⟩) s.length cap) s.length (Lib.byteCells s)) : Free w g s.length := by
  refine Free.of_bytes (cap := cap) (A := fun _ => True) (RowIn.of_own h (fun _ _ => trivial)) (fun j hj => ?_)
  rcases h.2 with ⟨e, _⟩ | ⟨g', cap', cur, e, _, hb, _⟩
  · cases e
  · cases e
    simp [World.frozen?, hb]

set_option maxRecDepth 100000 in
set_option maxHeartbeats 8000000 in
theorem tells_true (v : Value) (l : List (List UInt8)) (va : Value) (ask : List Int) (w : World) (hv : TextsIn w (· < w.heap.size) v l) (hll : l.length ≤ maxLen) (hsz : ∀ x ∈ l, x.length ≤ maxLen) (hva : NumsIn w (· < w.heap.size) va ask) (hla : ask.length ≤ maxLen) (hg : ET w) (ht : PT w) :
    Calls Tryd.prog 3 #[v, va] w fun e w' => e = .returned (.bool true) ∧ Below w.heap.size w w' := by
  have HV0 : Hid (Env w w) := ⟨Below.refl _ _, hg, ht⟩
  have HH := hideIt (head03_true w hg ht)
  have HY := hideIt hv
  have HYA := hideIt hva
  have HZ := hideIt (And.intro hll hsz)
  obtain ⟨a, cap, rfl⟩ := hv.form
  obtain ⟨aa, acap, rfl⟩ := hva.form
  obtain ⟨i0, hi, hi2⟩ := Option.map_eq_some_iff.1 infoByte
  obtain ⟨hz0, hz1, hz2⟩ : i0.zero = some (.int .u8 0) ∧ i0.size = 1 ∧ i0.bytes = 1 := by
    simp only [Prod.mk.injEq] at hi2; exact hi2
  have HI := hideIt (And.intro hi (And.intro hz0 (And.intro hz1 hz2)))
  unfold maxLen at hla
  clear hg ht hv hva hll hsz hi2 hi hz0 hz1 hz2
  go_enter Tryd.func3, Tryd.ntmps3
  go_wp2_with fail
  refine HH.out.mono ?_
  rintro e w1 ⟨rfl, hb1⟩
  have HV1 := hideIt (HV0.out.next hb1)
  have HY1 := hideIt (HY.out.kept (Kept.of_below HV1.out.1 (fun _ h _ => h)))
  clear hb1 HH HV0
  go_wp2_with fail
  refine (great03_any _ _ l w1 HY1.out HZ.out.1 HZ.out.2).mono ?_
  rintro e w2 ⟨⟨g, rfl, hgr⟩, rfl⟩
  by_cases hno : g = true ∨ (300 : Int) < (ask.length : Int)
  · rcases hno with rfl | hno
    · go_wp2
      go_ret
      exact ⟨rfl, HV1.out.1⟩
    · cases g
      all_goals
        go_wp2
        go_ret
        exact ⟨rfl, HV1.out.1⟩
  · have hg0 : g = false := by cases g <;> simp_all
    subst hg0
    have ha3 : ¬ (300 : Int) < (ask.length : Int) := fun h => hno (Or.inr h)
    have HGR := hideIt (hgr rfl).2
    have hl3 : l.length ≤ 300 := (hgr rfl).1
    clear hgr hno
    go_wp2_with fail
    refine (bNew_any w2).mono ?_
    rintro e w3 ⟨p, rfl, hs, hb⟩
    have HV3 := hideIt (HV1.out.next hb)
    have HS3 := hideIt hs
    have hlo := HV1.out.1.size
    have hlo3 := HV3.out.1.size
    have hal : Below w3.heap.size w3 (w3.alloc (.cells #[.slice none 0 0] 30)) := (Below.refl _ _).alloc (Nat.le_refl _) _
    have HV4 := hideIt (HV3.out.next hal)
    have HS4 := hideIt (HS3.out.kept (Kept.of_all hal))
    have HD4 := hideIt (DBSt.fresh w3)
    clear hs hb HV1 HV3 HS3 hal
    obtain ⟨q, hq⟩ : ∃ q, q = w3.heap.size := ⟨_, rfl⟩
    go_wp2
    rw [← hq] at HD4 ⊢
    go_loopw [8] (fun i wr => ∃ (k : Nat) (O O2 : Nat → Prop) (T : List (List UInt8)), k ≤ l.length ∧ i = .int .i64 k ∧ T.length ≤ k ∧ Hid (BookSt wr p O T) ∧ Hid (DBSt wr q O2 T) ∧ Hid (∀ j, O j → w.heap.size ≤ j ∧ j < wr.heap.size ∧ ¬ O2 j) ∧ Hid (∀ j, O2 j → w.heap.size ≤ j ∧ j < wr.heap.size) ∧ Hid (Env w wr)) (fun i _ => l.length - (intOf i).toNat)
    case atStart => exact ⟨0, _, _, [], Nat.zero_le _, rfl, Nat.le_refl _, HS4.out, HD4.out, fun j hj => ⟨by have := hj.1; omega, by have := hj.2; simp; omega, by have := hj.2; omega⟩, fun j hj => by simp; omega, HV4.out⟩
    case round =>
      clear HS4 HV4 hlo HY1 HD4 hq hlo3
      obtain ⟨k, O, O2, T, hk, rfl, hTk, HS, HD, HO, HO2, HV⟩ := hrel
      have hwr : w.heap.size ≤ wr.heap.size := HV.out.1.size
      by_cases hlt : k < l.length
      · obtain ⟨x, hx⟩ : ∃ x, l[k]? = some x := ⟨l[k], by simp [hlt]⟩
        have hy := HY.out.kept (Kept.of_below HV.out.1 (fun _ h _ => h))
        obtain ⟨b, off, u, rfl, hbw, c0, y0⟩ := hy.at hx
        have hx3 := HGR.out x (List.mem_of_getElem? hx)
        have HX := hideIt hx
        have HY0 := hideIt y0
        have hbl : b < wr.heap.size := by omega
        obtain ⟨a1, cap1, rfl, _⟩ := y0.form
        have HB1 := hideIt ((Below.refl wr.heap.size wr).alloc (Nat.le_refl _) (.cells #[] 5))
        have HON := hideIt (World.ownsRow_made (base := wr.heap.size) (e := 5) (size := 1) wr #[] 0 (Nat.le_refl _) (by decide) rfl)
        clear hx hy y0
        go_wp2_with (at_builtin; refine wpList_append_bytes rfl _ _ 31 rfl wr.heap.size 5 i0 (.int .u8 0) Tryd.underlying31 HI.out.1 HI.out.2.1 HI.out.2.2.1 HI.out.2.2.2 rfl _ 0 [] rfl HON.out _ _ x rfl (RowIn.kept HY0.out (Kept.of_all HB1.out)) (by omega) (by simp) ?_)
        intro v' w5 hown' hgrow hat
        have HB5 := hideIt (HB1.out.grown hgrow (by simp) (fun k hk => by simp [Value.ownBlock] at hk; omega))
        obtain ⟨g, hgo⟩ : ∃ g, v'.ownBlock = some g := by
          rcases hat with e | e
          · exact ⟨_, e⟩
          · exact ⟨_, e⟩
        obtain ⟨cap5, rfl, hc5, hg5, hg5l⟩ := own_at hown' hgo
        have HF5 := hideIt (Free.of_own hown')
        have HY5 : Hid (BytesIn w5 (fun _ => True) (.slice (some ⟨g, 0, none⟩) x.length cap5) x) := RowIn.of_own hown' (fun _ _ => trivial)
        have HS5 := hideIt (HS.out.kept (Kept.of_all HB5.out))
        have HD5 := hideIt (HD.out.kept (Kept.of_all HB5.out))
        have HV5 := hideIt (HV.out.next HB5.out)
        have hs5 := HB5.out.size
        obtain ⟨aq, capq, cq⟩ := HD5.out.len
        clear hown' hgrow hat hgo HON HB1 HS HD HV
        have c5 : w5.cell? ⟨b, off + k, none⟩ = some (.slice a1 x.length cap1) := (HB5.out.cell (p := ⟨b, off + k, none⟩) hbl).trans c0
        clear c0
        by_cases hlong : (65536 : Int) < (x.length : Int)
        · go_wp2_with fail
          refine (bDigest_long _ p O _ T _ x HS5.out HY5.out (by omega) (by unfold maxLen; omega)).mono ?_
          rintro e w6 ⟨er, rfl, ho, hb6⟩
          have HO6 := hideIt ho
          have HB6 := hideIt hb6
          obtain ⟨ty, y, rfl⟩ := ho.iface
          have HV6 := hideIt (HV5.out.next hb6)
          have HS6 := hideIt (HS5.out.kept (Kept.of_all hb6))
          have HD6 := hideIt (HD5.out.kept (Kept.of_all hb6))
          have c6 : w6.cell? ⟨b, off + k, none⟩ = some (.slice a1 x.length cap1) := (hb6.cell (p := ⟨b, off + k, none⟩) (lt_of_cell c5)).trans c5
          have hy := HY.out.kept (Kept.of_below HV6.out.1 (fun _ h _ => h))
          obtain ⟨b', off', u', e7, _, c7, y7⟩ := hy.at HX.out
          cases e7
          rw [c6] at c7
          cases c7
          have HY6 := hideIt y7
          have hs6 := hb6.size
          clear ho hb6 c5 hy y7 HV5 HS5 HD5 cq
          go_wp2_with fail
          refine (dbDigest_long _ q _ _ x HY6.out (by omega) (by unfold maxLen; omega)).mono ?_
          rintro e w7 ⟨rfl, rfl⟩
          have HF7 : Hid (Free w7 g x.length) := fun j hj => ⟨by obtain ⟨z, hz, c⟩ := (HF5.out j hj).1; exact ⟨z, hz, (HB6.out.cell (p := ⟨g, j, none⟩) hg5l).trans c⟩, (HB6.out.frozen (p := ⟨g, j, none⟩) hg5l).trans (HF5.out j hj).2⟩
          clear c6
          go_wp2
          go_loopw [15] (fun i wq => ∃ m : Nat, m ≤ x.length ∧ i = .int .i64 m ∧ Hid (Free wq g x.length) ∧ Hid (BookSt wq p O T) ∧ Hid (DBSt wq q O2 T) ∧ Hid (Env w wq) ∧ Hid (One wq (fun k => k = w5.heap.size) (.iface ty y) 2 ⟨#[98, 111, 111, 107]⟩ T.length) ∧ wr.heap.size ≤ wq.heap.size) (fun i _ => x.length - (intOf i).toNat)
          case atStart => exact ⟨0, Nat.zero_le _, rfl, HF7.out, HS6.out, HD6.out, HV6.out, HO6.out, by omega⟩
          case round =>
            clear HF7 HS6 HD6 HV6 HO6 HF5
            obtain ⟨m, hm, rfl, HF, HS, HD, HV, HE, hsq⟩ := hrel
            by_cases hmx : m < x.length
            · obtain ⟨⟨z, hz, c⟩, f⟩ := HF.out m hmx
              go_wp2
              have ez : ((z : Int) + 1) % 256 = (((z + 1) % 256 : Nat) : Int) := by omega
              rw [ez]
              have ht1 := turn_set wr g m (.int .u8 (((z + 1) % 256 : Nat) : Int))
              refine ⟨⟨m + 1, by omega, by go_num, HF.out.set hmx (by omega), HS.out.kept (ht1.kept (fun k hk _ e => by have := (HO.out k hk).2.1; omega)), HD.out.kept (ht1.kept (fun k hk _ e => by have := (HO2.out k hk).2; omega)), HV.out.turned ht1 (fun k hk => by omega), HE.out.kept (ht1.kept (fun k hk _ e => by omega)), by have := ht1.size; omega⟩, by simp [intOf]; omega⟩
            · have HA := hideIt (HV.out.at HE.out)
              clear HF HE
              go_wp2_with fail
              refine HA.out.code.mono ?_
              rintro e w8 ⟨rfl, H8, HB8⟩
              go_wp2_with fail
              refine (H8.out.trail (by simp)).mono ?_
              rintro e w9 ⟨a9, cap9, rfl, HT9, H9, HB9⟩
              go_wp2_with fail
              have hal : Below w9.heap.size w9 (w9.alloc (.cells #[.string ⟨#[98, 111, 111, 107]⟩, .int .i64 T.length] 44)) := (Below.refl _ _).alloc (Nat.le_refl _) _
              refine (Same_true _ _ _ _ [(⟨#[98, 111, 111, 107]⟩, (T.length : Int))] _ (HT9.out.kept hal) (lit_steps w9 _ _) (by simp)).mono ?_
              rintro e w10 ⟨rfl, b10⟩
              have hbx : Below wr.heap.size wr w10 := HB8.out.trans ((HB9.out.trans ((hal.trans (b10.mono hal.size)).mono HB9.out.size)).mono HB8.out.size)
              have HV10 := hideIt (HV.out.next hbx)
              have HS10 := hideIt (HS.out.kept (Kept.of_all hbx))
              have HD10 := hideIt (HD.out.kept (Kept.of_all hbx))
              have hs10 := hbx.size
              clear hal b10 hbx
              go_wp2
              exact ⟨⟨k + 1, O, O2, T, by omega, by go_num, by omega, HS10.out, HD10.out, fun j hj => ⟨(HO.out j hj).1, by have := (HO.out j hj).2.1; omega, (HO.out j hj).2.2⟩, fun j hj => ⟨(HO2.out j hj).1, by have := (HO2.out j hj).2; omega⟩, HV10.out⟩, by simp [intOf]; omega⟩
        · have hT6 : T.length < 65536 := by omega
          go_wp2_with fail
          refine (bDigest_ok _ p O _ T _ x HS5.out HY5.out (by omega) hT6).mono ?_
          rintro e w6 ⟨d, O', rfl, hd, hs6, ht6, ho6⟩
          have HV6 := hideIt (HV5.out.turned ht6 (fun k hk => (HO.out k hk).1))
          have HD6 := hideIt (HD5.out.kept (ht6.kept (fun j hj _ ho => (HO.out j ho).2.2 hj)))
          have HS6 := hideIt hs6
          have HF6 : Hid (Free w6 g x.length) := fun j hj => by
            have hb : w6.heap[g]? = w5.heap[g]? := ht6.block g hg5l (fun ho => by have := (HO.out g ho).2.1; omega)
            obtain ⟨⟨z, hz, c⟩, f⟩ := HF5.out j hj
            exact ⟨⟨z, hz, (World.cell?_of_block (a := ⟨g, j, none⟩) hb).trans c⟩, (World.frozen?_of_block (w := w5) (a := ⟨g, j, none⟩) hb).trans f⟩
          have hs6 := ht6.size
          have hy := HY.out.kept (Kept.of_below HV6.out.1 (fun _ h _ => h))
          obtain ⟨b', off', u', e7, _, c6, y7⟩ := hy.at HX.out
          cases e7
          obtain ⟨a6, cap6, rfl, _⟩ := y7.form
          have HY6 := hideIt y7
          have HDX := hideIt hd
          have HOX := hideIt ho6
          clear hd ht6 ho6 hy y7 HV5 HS5 HD5 cq c5 HF5
          go_wp2_with fail
          refine (dbDigest_ok _ q O2 _ T _ x HD6.out HY6.out (by omega) hT6).mono ?_
          rintro e w7 ⟨d2, O2', rfl, hd2, hd7, ht7, ho7⟩
          obtain rfl : d2 = d := HS6.out.once hd2 HDX.out
          have hcl := comes_le T x
          have HV7 := hideIt (HV6.out.turned ht7 (fun k hk => (HO2.out k hk).1))
          have HS7 : Hid (BookSt w7 p O' (comes T x)) := HS6.out.kept (ht7.kept (fun j hj _ ho => by
            have h2 := (HO2.out j ho).2
            rcases (HOX.out j hj).1 with h | h
            · exact (HO.out j h).2.2 ho
            · omega))
          have HD7 := hideIt hd7
          have HF7 : Hid (Free w7 g x.length) := fun j hj => by
            have hb : w7.heap[g]? = w6.heap[g]? := ht7.block g (by omega) (fun ho => by have := (HO2.out g ho).2; omega)
            obtain ⟨⟨z, hz, c⟩, f⟩ := HF6.out j hj
            exact ⟨⟨z, hz, (World.cell?_of_block (a := ⟨g, j, none⟩) hb).trans c⟩, (World.frozen?_of_block (w := w6) (a := ⟨g, j, none⟩) hb).trans f⟩
          have hs7 := ht7.size
          have HO7 : Hid (∀ j, O' j → w.heap.size ≤ j ∧ j < w7.heap.size ∧ ¬ O2' j ∧ j ≠ g) := fun j hj => by
            obtain ⟨h1, h2⟩ := HOX.out j hj
            refine ⟨?_, by omega, fun h => ?_, ?_⟩
            · rcases h1 with h | h
              · exact (HO.out j h).1
              · omega
            · rcases (ho7 j h).1 with h' | h'
              · rcases h1 with h | h
                · exact (HO.out j h).2.2 h'
                · have := (HO2.out j h').2; omega
              · omega
            · rcases h1 with h | h
              · have := (HO.out j h).2.1; omega
              · omega
          have HO27 : Hid (∀ j, O2' j → w.heap.size ≤ j ∧ j < w7.heap.size ∧ j ≠ g) := fun j hj => by
            obtain ⟨h1, h2⟩ := ho7 j hj
            rcases h1 with h | h
            · have := HO2.out j h; omega
            · omega
          clear hd2 hd7 ht7 ho7 HS6 HD6 HV6 HF6 c6 HDX
          generalize comes T x = T' at HS7 HD7 hcl ⊢
          go_wp2
          go_loopw [15] (fun i wq => ∃ m : Nat, m ≤ x.length ∧ i = .int .i64 m ∧ Hid (Free wq g x.length) ∧ Hid (BookSt wq p O' T') ∧ Hid (DBSt wq q O2' T') ∧ Hid (Env w wq) ∧ w7.heap.size ≤ wq.heap.size) (fun i _ => x.length - (intOf i).toNat)
          case atStart => exact ⟨0, Nat.zero_le _, rfl, HF7.out, HS7.out, HD7.out, HV7.out, by omega⟩
          case round =>
            clear HF7 HS7 HD7 HV7
            obtain ⟨m, hm, rfl, HF, HS, HD, HV, hsq⟩ := hrel
            by_cases hmx : m < x.length
            · obtain ⟨⟨z, hz, c⟩, f⟩ := HF.out m hmx
              go_wp2
              have ez : ((z : Int) + 1) % 256 = (((z + 1) % 256 : Nat) : Int) := by omega
              rw [ez]
              have ht1 := turn_set wr g m (.int .u8 (((z + 1) % 256 : Nat) : Int))
              refine ⟨⟨m + 1, by omega, by go_num, HF.out.set hmx (by omega), HS.out.kept (ht1.kept (fun k hk _ e => (HO7.out k hk).2.2.2 e)), HD.out.kept (ht1.kept (fun k hk _ e => (HO27.out k hk).2.2 e)), HV.out.turned ht1 (fun k hk => by omega), by have := ht1.size; omega⟩, by simp [intOf]; omega⟩
            · go_wp2_with fail
              refine (Code_nil wr).mono ?_
              rintro e w8 ⟨rfl, b8⟩
              have HV8 := hideIt (HV.out.next b8)
              have HS8 := hideIt (HS.out.kept (Kept.of_all b8))
              have HD8 := hideIt (HD.out.kept (Kept.of_all b8))
              have hs8 := b8.size
              clear b8
              go_wp2
              exact ⟨⟨k + 1, O', O2', T', by omega, by go_num, by omega, HS8.out, HD8.out, fun j hj => ⟨(HO7.out j hj).1, by have := (HO7.out j hj).2.1; omega, (HO7.out j hj).2.2.1⟩, fun j hj => ⟨(HO27.out j hj).1, by have := (HO27.out j hj).2.1; omega⟩, HV8.out⟩, by simp [intOf]; omega⟩
      · have hT6 : T.length ≤ 300 := by omega
        go_wp2
        go_loopw [16] (fun i wq => ∃ j : Nat, j ≤ ask.length ∧ i = .int .i64 j ∧ Hid (BookSt wq p O T) ∧ Hid (DBSt wq q O2 T) ∧ Hid (Env w wq)) (fun i _ => ask.length - (intOf i).toNat)
        case atStart => exact ⟨0, Nat.zero_le _, rfl, HS.out, HD.out, HV.out⟩
        case round =>
          clear HS HD HV
          obtain ⟨j, hj, rfl, HS, HD, HV⟩ := hrel
          by_cases hlj : j < ask.length
          · obtain ⟨z, hz⟩ : ∃ z, ask[j]? = some z := ⟨ask[j], by simp [hlj]⟩
            have hy := RowIn.kept HYA.out (Kept.of_below HV.out.1 (fun _ h _ => h))
            obtain ⟨b, off, rfl, hbw, c0⟩ := NumsIn.at hy hz
            have HZJ := hideIt hz
            clear hy hz
            by_cases hin : 0 ≤ z ∧ z < (T.length : Int)
            · obtain ⟨d, rfl⟩ : ∃ d : Nat, z = (d : Int) := ⟨z.toNat, by omega⟩
              obtain ⟨x, hx⟩ : ∃ x, T[d]? = some x := ⟨T[d]'(by omega), by simp [show d < T.length by omega]⟩
              have HX := hideIt hx
              clear hx
              go_wp2_with fail
              refine (bText_ok _ p O T x d HS.out HX.out).mono ?_
              rintro e w5 ⟨cap5, rfl, y5, _, _, hb5⟩
              have HV5 := hideIt (HV.out.next hb5)
              have HS5 := hideIt (HS.out.kept (Kept.of_all hb5))
              have HD5 := hideIt (HD.out.kept (Kept.of_all hb5))
              have HY5 := hideIt y5
              have c5 : w5.cell? ⟨b, off + j, none⟩ = some (.int .i64 d) := (hb5.cell (p := ⟨b, off + j, none⟩) (lt_of_cell c0)).trans c0
              clear y5 hb5 HS HD HV c0
              go_wp2_with fail
              refine (dbText_ok _ q O2 T x d HD5.out HX.out).mono ?_
              rintro e w6 ⟨v6, rfl, y6, hb6⟩
              have HV6 := hideIt (HV5.out.next hb6)
              have HS6 := hideIt (HS5.out.kept (Kept.of_all hb6))
              have HD6 := hideIt (HD5.out.kept (Kept.of_all hb6))
              have HYa := hideIt (RowIn.kept (RowIn.mono HY5.out (A' := (· < w5.heap.size)) (fun _ _ h => h)) (Kept.of_below hb6 (fun _ h _ => h)))
              have HYb := hideIt y6
              obtain ⟨a6, cap6, rfl, _⟩ := y6.form
              clear y6 hb6 HS5 HD5 HV5 HY5 c5
              go_wp2
              refine wp_region_quiet_grow (by kernel_rfl) (by kernel_rfl) ?_
              intro ι _ f hf hn
              have hst1 := fun i => BytesIn.str (RowIn.kept HYa.out (Kept.of_all (hf i)))
              have hst2 := fun i => BytesIn.str (RowIn.kept HYb.out (Kept.of_all (hf i)))
              have HF := hideIt hf
              have HN := hideIt hn
              clear hf hn
              repeat (go_big_quiet_step ((go_at_call 12; exact Calls.grow HN.out (Code_nil _))))
              refine wpQuiet_nil ?_
              rintro w8 ⟨i, rfl⟩
              have HB8 := hideIt (HF.out i)
              clear hst1 hst2 HF HN
              generalize f i = w8 at HB8 ⊢
              have HV8 := hideIt (HV6.out.next HB8.out)
              have HS8 := hideIt (HS6.out.kept (Kept.of_all HB8.out))
              have HD8 := hideIt (HD6.out.kept (Kept.of_all HB8.out))
              go_wp2
              exact ⟨⟨j + 1, by omega, by go_num, HS8.out, HD8.out, HV8.out⟩, by simp [intOf]; omega⟩
            · have hbad : z < 0 ∨ (T.length : Int) ≤ z := by omega
              go_wp2_with fail
              refine (bText_bad _ p O T z HS.out hbad).mono ?_
              rintro e w5 ⟨er, rfl, ho, hb5⟩
              have HV5 := hideIt (HV.out.next hb5)
              have HS5 := hideIt (HS.out.kept (Kept.of_all hb5))
              have HD5 := hideIt (HD.out.kept (Kept.of_all hb5))
              have HO5 := hideIt ho
              obtain ⟨ty, y, rfl⟩ := ho.iface
              have c5 : w5.cell? ⟨b, off + j, none⟩ = some (.int .i64 z) := (hb5.cell (p := ⟨b, off + j, none⟩) (lt_of_cell c0)).trans c0
              clear ho hb5 HS HD HV c0
              go_wp2_with fail
              refine (dbText_bad _ q O2 T z HD5.out hbad).mono ?_
              rintro e w6 ⟨rfl, hb6⟩
              have HV6 := hideIt (HV5.out.next hb6)
              have HS6 := hideIt (HS5.out.kept (Kept.of_all hb6))
              have HD6 := hideIt (HD5.out.kept (Kept.of_all hb6))
              have HA := hideIt (HV6.out.at ((HO5.out.mono (A' := (· < w5.heap.size)) (fun _ _ h => h)).kept (Kept.of_below hb6 (fun _ h _ => h))))
              have hsn := fun w' => BytesIn.str (BytesIn.nil w' (fun _ => True))
              have HA1 := hideIt (HA.out.next (below_drew w6))
              obtain ⟨aq, capq, cq⟩ := HD6.out.len
              have hql : q < w6.heap.size := lt_of_cell (a := ⟨q, 0, none⟩) cq
              have HKQ := hideIt cq
              clear hb6 HS5 HD5 HV5 c5 HA
              go_wp2
              go_region_held3 (fun w' => w'.cell? ⟨q, 0, none⟩ = some (.slice aq T.length capq)) (first | exact cq | exact HK8.out | exact HK9.out | exact HK10.out | go_keep)
                (first
                | (go_at_call 12; refine HA1.out.code.mono ?_; rintro e w8 ⟨rfl, H8, HB8⟩; have HK8 : Hid (w8.cell? ⟨q, 0, none⟩ = some (.slice aq T.length capq)) := (HB8.out.cell (p := ⟨q, 0, none⟩) hql).trans HKQ.out; have hq8 : q < w8.heap.size := Nat.lt_of_lt_of_le hql HB8.out.size)
                | (go_at_call 14; refine (At.trail (n := 1) (l := [(⟨#[98, 111, 111, 107]⟩, (T.length : Int))]) (by first | exact H8.out | exact H8.out.next ((Below.refl _ _).alloc (Nat.le_refl _) _)) (by simp)).mono ?_; rintro e w9 ⟨a9, cap9, rfl, HS9, H9, HB9⟩; have HL9 : Hid (Below w8.heap.size w8 w9) := (by first | exact HB9.out | exact ((Below.refl _ _).alloc (Nat.le_refl _) _).trans (HB9.out.mono (by simp))); have HK9 : Hid (w9.cell? ⟨q, 0, none⟩ = some (.slice aq T.length capq)) := (HL9.out.cell (p := ⟨q, 0, none⟩) hq8).trans HK8.out; have hq9 : q < w9.heap.size := Nat.lt_of_lt_of_le hq8 HL9.out.size)
                | (go_at_call 13; refine (Same_true (w9.heap.size + 1) (w9.heap.size + 1) _ _ [(⟨#[98, 111, 111, 107]⟩, (T.length : Int))] _ (by first | exact HS9.out.up (Nat.le_succ _) | exact (HS9.out.kept ((Below.refl _ _).alloc (Nat.le_refl _) _)).up (Nat.le_succ _)) (by first | exact lit_steps w9 _ _ | exact ((lit_steps w8 _ _).kept (HB9.out.mono (by simp))).up (by have := HL9.out.size; omega)) (by simp)).mono ?_; rintro e w10 ⟨rfl, b10⟩; have HL10 : Hid (Below w9.heap.size w9 w10) := (by first | exact b10 | exact ((Below.refl _ _).alloc (Nat.le_refl _) _).trans (b10.mono (by simp))); have HK10 : Hid (w10.cell? ⟨q, 0, none⟩ = some (.slice aq T.length capq)) := (HL10.out.cell (p := ⟨q, 0, none⟩) hq9).trans HK9.out))
              all_goals
                have hbx : Below w6.heap.size w6 w10 := ((below_drew w6).trans HB8.out).trans ((HL9.out.trans (HL10.out.mono HL9.out.size)).mono HB8.out.size)
                have HV10 := hideIt (HV6.out.next hbx)
                have HS10 := hideIt (HS6.out.kept (Kept.of_all hbx))
                have HD10 := hideIt (HD6.out.kept (Kept.of_all hbx))
                clear hbx
                go_wp2
                exact ⟨⟨j + 1, by omega, by go_num, HS10.out, HD10.out, HV10.out⟩, by simp [intOf]; omega⟩
          · obtain ⟨aq, capq, cq⟩ := HD.out.len
            go_wp2
            go_quiet ((go_at_call 17; exact Calls.quiet_of_same (bMany_any _ p O T (HS.out.kept (Kept.of_all (below_drewN wr _))))))
            have HV9 := hideIt (HV.out.next (below_drewN wr nq))
            generalize wr.drewN nq = w9 at HV9 ⊢
            go_wp2
            go_ret
            exact ⟨rfl, HV9.out.1⟩
end Go.Proofs.YtongebdafjedjaaDoor
