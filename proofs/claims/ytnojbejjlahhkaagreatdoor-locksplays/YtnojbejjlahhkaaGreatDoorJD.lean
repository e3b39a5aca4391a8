/-
  What is proved here: the document's own Locks: Lock; over this program.
-/
import Derived.Test.YtnojbejjlahhkaaGreatDoorJC
import Derived.Deep.RegionLaw
namespace Go.Proofs.YtnojbejjlahhkaaGreatDoor
open Go.RowKit Go.Extern.Stop Go.Stop Go.Extern

theorem DLk.kept {w w' : World} {q : Nat} {O : Nat → Prop} {L : Lk} (h : DLk w q O L) (hk : Kept O w w') (hs : w.heap.size ≤ w'.heap.size) : DLk w' q O L := by
  obtain ⟨v, c0, f0, o1, o2, hv⟩ := h
  have hb := hk q o1 (lt_of_cell c0)
  exact ⟨v, (World.cell?_of_block (a := ⟨q, 0, none⟩) hb).trans c0, (World.frozen?_of_block (a := ⟨q, 0, none⟩) hb).trans f0, o1, fun k hk => Nat.lt_of_lt_of_le (o2 k hk) hs, RowIn.kept hv (fun k hA hl => hk k hA.1 hl)⟩
/-- one Locks takes the entries of another one -/
theorem dlk_take {w : World} {q r : Nat} {O Ot : Nat → Prop} {L Lt : Lk} (hq : DLk w q O L) (ht : DLk w r Ot Lt) (hn : ¬ Ot q) :
    ∃ a cap, w.cell? ⟨r, 0, none⟩ = some (.slice a Lt.length cap) ∧ DLk (w.setCell ⟨q, 0, none⟩ (.slice a Lt.length cap)) q (fun k => O k ∨ (Ot k ∧ k ≠ r)) Lt := by
  obtain ⟨v, c0, f0, o1, o2, _⟩ := hq
  obtain ⟨vt, t0, _, _, o4, hv⟩ := ht
  obtain ⟨a, cap, rfl⟩ := hv.form
  refine ⟨a, cap, t0, _, World.cell?_setCell_same _ _ _ c0, by rw [World.frozen?_setCell]; exact f0, Or.inl o1, fun k hk => ?_, ?_⟩
  · rw [size_set]
    rcases hk with hk | hk
    · exact o2 k hk
    · exact o4 k hk.1
  · refine RowIn.mono (RowIn.kept hv (fun k hA _ => Below.heap_setCell w ⟨q, 0, none⟩ _ k (fun e => hn (by rw [← show k = q from e]; exact hA.1)))) (fun k hA _ => ⟨Or.inr hA, fun e => hn (by rw [← e]; exact hA.1)⟩)
theorem room2_set (w : World) (q : Nat) (x y X Y : Value) (c0 : w.cell? ⟨q, 0, none⟩ = some x) (c1 : w.cell? ⟨q, 1, none⟩ = some y) :
    ∃ W, W = (w.setCell ⟨q, 0, none⟩ X).setCell ⟨q, 1, none⟩ Y ∧ W.cell? ⟨q, 0, none⟩ = some X ∧ W.cell? ⟨q, 1, none⟩ = some Y ∧ W.heap.size = w.heap.size ∧ (∀ A : Nat → Prop, ¬ A q → Kept A w W) ∧ ∀ B w0, Below B w0 w → B ≤ q → Below B w0 W := by
  have n01 : (⟨q, 0, none⟩ : Addr) ≠ ⟨q, 1, none⟩ := by simp
  have a0 := World.cell?_setCell_same w ⟨q, 0, none⟩ X c0
  have a1 : (w.setCell ⟨q, 0, none⟩ X).cell? ⟨q, 1, none⟩ = some y := (World.cell?_setCell_other _ _ _ _ n01).trans c1
  refine ⟨_, rfl, (World.cell?_setCell_other _ _ _ _ n01.symm).trans a0, World.cell?_setCell_same _ ⟨q, 1, none⟩ Y a1, by rw [size_set, size_set], fun A hA k hk _ => ?_, fun B w0 hb hq => (hb.setCell (p := ⟨q, 0, none⟩) hq X).setCell (p := ⟨q, 1, none⟩) hq Y⟩
  have hne : k ≠ q := fun e => hA (e ▸ hk)
  rw [Below.heap_setCell _ ⟨q, 1, none⟩ _ _ hne, Below.heap_setCell _ ⟨q, 0, none⟩ _ _ hne]
def lockS : ByteArray := ⟨#[108, 111, 99, 107]⟩
/-- what the document's Lock answers, and who has which keys then -/
def DLockIs (L : Lk) (who : Int) (keys : List (List UInt8)) (n : Int) (s : ByteArray) (a : Int) (L' : Lk) : Prop :=
  (LkErr L who keys n a ∧ s = ⟨#[108, 111, 99, 107]⟩ ∧ L' = L) ∨
  (n = 0 ∧ s = ⟨#[]⟩ ∧ a = 0 ∧ 0 ≤ who ∧ (∀ (j : Nat) t, keys[j]? = some t → barE L who t = 0) ∧ L' = puts L who keys ∧ (puts L who keys).length ≤ 128)
def stepV (n : Int) (s : ByteArray) (a : Int) : Value := .tuple #[.int .i64 n, .agg #[.string s, .int .i64 a]]
theorem Below.moveQ {w w' : World} {q : Nat} {O : Nat → Prop} (h : Below w.heap.size w w') : MoveQ w q O w' O := ⟨Turn.of_below h, fun _ h => Or.inl h⟩
theorem puts_many {L : Lk} (who : Int) (keys : List (List UInt8)) : (puts L who keys).length ≤ L.length + keys.length := by
  induction keys generalizing L with
  | nil => exact Nat.le_refl _
  | cons s r ih =>
    have h1 := ih (L := putL L s who)
    have h2 : (putL L s who).length ≤ L.length + 1 := by
      unfold putL
      rw [ins_len]
      have := List.length_filter_le (fun x : List UInt8 × Int => !(x.1 == s)) L
      omega
    have e : puts L who (s :: r) = puts (putL L s who) who r := rfl
    rw [e, List.length_cons]
    omega

set_option maxRecDepth 100000 in
set_option maxHeartbeats 16000000 in
theorem dlLock_any (w : World) (q : Nat) (O : Nat → Prop) (L : Lk) (who : Int) (v : Value) (keys : List (List UInt8)) (h : DLk w q O L) (hr : KRise L) (hl : L.length ≤ 1000) (hv : KeysIn w (· < w.heap.size) v keys) (hn : keys.length ≤ 3000) :
    Calls Tryz.prog 8 #[.pointer (some ⟨q, 0, none⟩), .int .i64 who, v] w fun e w' => ∃ n s a O' L', e = .returned (stepV n s a) ∧ DLk w' q O' L' ∧ MoveQ w q O w' O' ∧ DLockIs L who keys n s a L' := by
  have HD := hideIt h
  have HRS := hideIt hr
  have HV := hideIt hv
  obtain ⟨a, cap, rfl⟩ := hv.form
  have hqw := h.lt q (by obtain ⟨_, _, _, o, _⟩ := h; exact o)
  obtain ⟨W0, hW0⟩ : ∃ W0, W0 = w.alloc (.cells #[.string ⟨#[]⟩, .int .i64 0] 39) := ⟨_, rfl⟩
  have hb0 : Below w.heap.size w W0 := by rw [hW0]; exact (Below.refl _ _).alloc (Nat.le_refl _) _
  have b0 : W0.cell? ⟨w.heap.size, 0, none⟩ = some (.string ⟨#[]⟩) := by rw [hW0, World.cell?_alloc_at _ _ _ _ rfl]; rfl
  have b1 : W0.cell? ⟨w.heap.size, 1, none⟩ = some (.int .i64 0) := by rw [hW0, World.cell?_alloc_at _ _ _ _ rfl]; rfl
  have z0 : W0.frozen? ⟨w.heap.size, 0, none⟩ = false := by rw [hW0]; exact World.frozen?_alloc_at _ _ _ _ rfl
  have z1 : W0.frozen? ⟨w.heap.size, 1, none⟩ = false := by rw [hW0]; exact World.frozen?_alloc_at _ _ _ _ rfl
  have hs0 : W0.heap.size = w.heap.size + 1 := by rw [hW0]; simp
  have HB0 := hideIt hb0
  clear hr hv h hb0
  by_cases hw : who < 0
  · go_enter Tryz.func8, Tryz.ntmps8
    go_wp2
    obtain ⟨W3, hW3⟩ : ∃ W3, W3 = w.alloc (.cells #[.string ⟨#[108, 111, 99, 107]⟩, .int .i64 (-1)] 39) := ⟨_, rfl⟩
    have e0 : W3.cell? ⟨w.heap.size, 0, none⟩ = some (.string ⟨#[108, 111, 99, 107]⟩) := by rw [hW3, World.cell?_alloc_at _ _ _ _ rfl]; rfl
    have e1 : W3.cell? ⟨w.heap.size, 1, none⟩ = some (.int .i64 (-1)) := by rw [hW3, World.cell?_alloc_at _ _ _ _ rfl]; rfl
    have HB3 : Hid (Below w.heap.size w W3) := hideIt (by rw [hW3]; exact (Below.refl _ _).alloc (Nat.le_refl _) _)
    rw [← hW3]
    clear hW3 b0 b1 z0 z1
    refine bodyPost_ret (v := stepV 1 ⟨#[108, 111, 99, 107]⟩ (-1)) (by simp [results, Tryz.results8, go_sem, e0, e1, stepV]) rfl ?_
    exact ⟨_, _, _, O, L, rfl, HD.out.next HB3.out, Below.moveQ HB3.out, Or.inl ⟨Or.inl ⟨hw, rfl, rfl⟩, rfl, rfl⟩⟩
  · obtain ⟨v0, c0w, f0w, o1, o2, hv0⟩ := HD.out
    obtain ⟨aL, cL, rfl⟩ := hv0.form
    have HOQ := hideIt o1
    have HV0 := hideIt hv0
    obtain ⟨W1, hW1⟩ : ∃ W1, W1 = W0.alloc (.cells #[.slice aL L.length cL] 29) := ⟨_, rfl⟩
    have hb1 : Below W0.heap.size W0 W1 := by rw [hW1]; exact (Below.refl _ _).alloc (Nat.le_refl _) _
    have hs1 : W1.heap.size = w.heap.size + 2 := by rw [hW1]; simp [hs0]
    have t0 : W1.cell? ⟨w.heap.size + 1, 0, none⟩ = some (.slice aL L.length cL) := by rw [hW1, ← hs0, World.cell?_alloc_at _ _ _ _ rfl]; rfl
    have tf : W1.frozen? ⟨w.heap.size + 1, 0, none⟩ = false := by rw [hW1, ← hs0]; exact World.frozen?_alloc_at _ _ _ _ rfl
    have HB1 := hideIt (HB0.out.trans (hb1.mono HB0.out.size))
    have HT1 : Hid (DLk W1 (w.heap.size + 1) (fun k => (O k ∧ k ≠ q) ∨ k = w.heap.size + 1) L) := hideIt ⟨_, t0, tf, Or.inr rfl, fun k hk => by
      rcases hk with hk | hk
      · have := o2 k hk.1; omega
      · omega, RowIn.mono (RowIn.kept HV0.out (Kept.of_below HB1.out (fun k hk _ => o2 k hk.1))) (fun k hk _ => ⟨Or.inl hk, by have := o2 k hk.1; omega⟩)⟩
    have HR1 := hideIt (And.intro ((hb1.cell (lt_of_cell b0)).trans b0) (And.intro ((hb1.cell (lt_of_cell b1)).trans b1) (And.intro ((hb1.frozen (p := ⟨w.heap.size, 0, none⟩) (lt_of_cell b0)).trans z0) ((hb1.frozen (p := ⟨w.heap.size, 1, none⟩) (lt_of_cell b1)).trans z1))))
    clear b0 b1 z0 z1 hb1 t0 tf hv0 f0w o1 o2
    go_enter Tryz.func8, Tryz.ntmps8
    go_wp2
    try rw [← hW0]
    try rw [← hW1]
    clear hW0 hW1 c0w
    obtain ⟨r1, hr1⟩ : ∃ r1, r1 = w.heap.size + 1 := ⟨_, rfl⟩
    rw [← hr1] at HT1
    try rw [hs0]
    try rw [← hr1]
    have HRR := hideIt hr1
    clear hr1 hs1 hs0
    go_loopw [9] (fun iv wr => ∃ (k : Nat) (Ot : Nat → Prop), k ≤ keys.length ∧ iv = .int .i64 k ∧ Hid (∀ (j : Nat) t, j < k → keys[j]? = some t → barE L who t = 0) ∧ Hid (DLk wr r1 Ot (puts L who (keys.take k))) ∧ Hid (∀ k, Ot k → (O k ∧ k ≠ q) ∨ w.heap.size < k) ∧
      Hid (wr.cell? ⟨w.heap.size, 0, none⟩ = some (.string ⟨#[]⟩) ∧ wr.cell? ⟨w.heap.size, 1, none⟩ = some (.int .i64 0) ∧ wr.frozen? ⟨w.heap.size, 0, none⟩ = false ∧ wr.frozen? ⟨w.heap.size, 1, none⟩ = false) ∧ Hid (Below w.heap.size w wr)) (fun iv _ => keys.length - (intOf iv).toNat)
    case atStart => exact ⟨0, _, Nat.zero_le _, rfl, hideIt (fun j t hj => by omega), HT1, hideIt (fun k hk => by rcases hk with hk | hk; exact Or.inl hk; exact Or.inr (by have := HRR.out; omega)), HR1, HB1⟩
    case round =>
      clear HT1 HR1 HB1
      obtain ⟨k, Ot, hk, rfl, HK, HT, HOt, HRm, HB⟩ := hrel
      have HDW := hideIt (HD.out.next HB.out)
      by_cases hlt : k < keys.length
      case pos =>
        obtain ⟨s, hs⟩ : ∃ s, keys[k]? = some s := ⟨keys[k], by simp [hlt]⟩
        obtain ⟨b, off, rfl, _, c1⟩ := KeysIn.at (RowIn.kept HV.out (Kept.of_below HB.out (fun _ h _ => h))) hs
        have HX := hideIt hs
        obtain ⟨m0, m1, n0, n1⟩ := HRm.out
        clear hs
        by_cases h16 : 16 < s.length
        · have HBR : Hid (barE L who s = 1) := hideIt (by unfold barE; rw [if_pos h16])
          go_wp2
          obtain ⟨W3, hW3, e0, e1, hsz, hkp, hb3⟩ := room2_set wr w.heap.size _ _ (.string ⟨#[108, 111, 99, 107]⟩) (.int .i64 (k : Int)) m0 m1
          rw [← hW3]
          have HB3 := hideIt (hb3 w.heap.size w HB.out (Nat.le_refl _))
          have HD3 := hideIt (HDW.out.kept (hkp O (fun o => by have := HD.out.lt _ o; omega)) (by rw [hsz]; exact Nat.le_refl _))
          clear hW3 hb3 m0 m1 n0 n1
          refine bodyPost_ret (v := stepV 1 ⟨#[108, 111, 99, 107]⟩ (k : Int)) (by simp [results, Tryz.results8, go_sem, e0, e1, stepV]) rfl ?_
          exact ⟨_, _, _, O, L, rfl, HD3.out, Below.moveQ HB3.out, Or.inl ⟨Or.inr (Or.inl ⟨by omega, k, s, HX.out, HK.out, HBR.out.symm, Or.inl rfl, rfl⟩), rfl, rfl⟩⟩
        · go_wp2_with fail
          refine (dlHolder_any wr q O L s HDW.out (by omega)).mono ?_
          rintro e w2 ⟨rfl, rfl⟩
          have hbc : (holdL L s = none ∧ barE L who s = 0) ∨ (holdL L s = some who ∧ barE L who s = 0) ∨ (∃ n, holdL L s = some n ∧ (n == who) = false ∧ barE L who s = 81) := by
            unfold barE
            rw [if_neg h16]
            cases hh : holdL L s with
            | none => exact Or.inl ⟨rfl, rfl⟩
            | some n =>
              cases hq : n == who with
              | true => exact Or.inr (Or.inl ⟨by rw [show n = who by simpa using hq], by simp [hq]⟩)
              | false => exact Or.inr (Or.inr ⟨n, rfl, hq, by simp [hq]⟩)
          rcases hbc with ⟨hh, hbz⟩ | ⟨hh, hbz⟩ | ⟨n, hh, hq, hbz⟩
          case inr.inr =>
            rw [hh, show holdV (some n) = .tuple #[.int .i64 n, .bool true] from rfl]
            have hq2 : (n != who) = true := by simp [bne, hq]
            have HBR := hideIt hbz
            clear hh hbz
            go_wp2
            obtain ⟨W3, hW3, e0, e1, hsz, hkp, hb3⟩ := room2_set w2 w.heap.size _ _ (.string ⟨#[108, 111, 99, 107]⟩) (.int .i64 (k : Int)) m0 m1
            rw [← hW3]
            have HB3 := hideIt (hb3 w.heap.size w HB.out (Nat.le_refl _))
            have HD3 := hideIt (HDW.out.kept (hkp O (fun o => by have := HD.out.lt _ o; omega)) (by rw [hsz]; exact Nat.le_refl _))
            clear hW3 hb3 m0 m1 n0 n1
            refine bodyPost_ret (v := stepV 81 ⟨#[108, 111, 99, 107]⟩ (k : Int)) (by simp [results, Tryz.results8, go_sem, e0, e1, stepV]) rfl ?_
            exact ⟨_, _, _, O, L, rfl, HD3.out, Below.moveQ HB3.out, Or.inl ⟨Or.inr (Or.inl ⟨by omega, k, s, HX.out, HK.out, HBR.out.symm, Or.inr rfl, rfl⟩), rfl, rfl⟩⟩
          case' inl => rw [hh, show holdV (none : Option Int) = .tuple #[.int .i64 (-1), .bool false] from rfl]
          case' inr.inl =>
            rw [hh, show holdV (some who) = .tuple #[.int .i64 who, .bool true] from rfl]
            have hq2 : (who != who) = false := by simp
          all_goals
            have HBR := hideIt hbz
            have HTK : Hid (puts L who (keys.take (k + 1)) = putL (puts L who (keys.take k)) s who) := hideIt (by rw [← puts_snoc, List.take_add_one, HX.out]; rfl)
            have HLN := hideIt (show (puts L who (keys.take k)).length ≤ 100000 by have h1 := puts_many (L := L) who (keys.take k); rw [List.length_take] at h1; omega)
            clear hh hbz
            go_wp2_with fail
            refine (dlput_any w2 r1 Ot _ (s, who) HT.out (puts_rise HRS.out _ _) HLN.out).mono ?_
            rintro e w3 ⟨Ot', rfl, g1, g2⟩
            have hwz := HB.out.size
            have hkr : Kept (fun j => j = w.heap.size) w2 w3 := g2.turn.kept (fun j hj _ e => by have := HRR.out; omega)
            have HRm3 := hideIt (And.intro (hkr.cell (a := ⟨w.heap.size, 0, none⟩) rfl m0) (And.intro (hkr.cell (a := ⟨w.heap.size, 1, none⟩) rfl m1) (And.intro ((World.frozen?_of_block (a := ⟨w.heap.size, 0, none⟩) (hkr _ rfl (lt_of_cell m0))).trans n0) ((World.frozen?_of_block (a := ⟨w.heap.size, 1, none⟩) (hkr _ rfl (lt_of_cell m1))).trans n1))))
            have HB3 := hideIt (HB.out.trans (g2.turn.below (B := w.heap.size) (fun j hj => by have := HRR.out; omega) hwz))
            have HO3 := hideIt (show ∀ j, Ot' j → (O j ∧ j ≠ q) ∨ w.heap.size < j from fun j hj => by
              rcases g2.own j hj with e | e
              · exact HOt.out j e
              · have := lt_of_cell m0; exact Or.inr (Nat.lt_of_lt_of_le this e))
            have HT3 : Hid (DLk w3 r1 Ot' (puts L who (keys.take (k + 1)))) := hideIt (by rw [HTK.out]; exact g1)
            have HK3 := hideIt (show ∀ (j : Nat) t, j < k + 1 → keys[j]? = some t → barE L who t = 0 from fun j t hj ht => by
              by_cases e : j = k
              · subst e; rw [HX.out] at ht; cases ht; exact HBR.out
              · exact HK.out j t (by omega) ht)
            clear g1 g2 hkr m0 m1 n0 n1
            go_wp2
            exact ⟨⟨k + 1, Ot', by omega, by go_num, HK3, HT3, HO3, HRm3, HB3⟩, by simp [intOf]; omega⟩
      case neg =>
        obtain rfl : k = keys.length := by omega
        rw [List.take_length] at HT
        obtain ⟨m0, m1, n0, n1⟩ := HRm.out
        have HALL : Hid (∀ (j : Nat) t, keys[j]? = some t → barE L who t = 0) := hideIt fun j t ht => HK.out j t (List.getElem?_eq_some_iff.1 ht).1 ht
        have hnq : ¬ Ot q := fun o => by
          rcases HOt.out q o with e | e
          · exact e.2 rfl
          · omega
        obtain ⟨at_, ct, t0, hdk⟩ := dlk_take HDW.out HT.out hnq
        obtain ⟨v1, c1, f1, _, _, hv1⟩ := HDW.out
        obtain ⟨a1, cp1, rfl⟩ := hv1.form
        have HDK := hideIt hdk
        have hrl : r1 < wr.heap.size := lt_of_cell t0
        clear hdk hv1 hnq
        by_cases hM : (128 : Int) < (((puts L who keys).length : Nat) : Int)
        · obtain ⟨M, hMM⟩ : ∃ M, (puts L who keys).length = M := ⟨_, rfl⟩
          rw [hMM] at hM t0
          have HM := hideIt hMM
          clear hMM
          go_wp2_with fail
          go_region_law (fail)
          all_goals
            try go_simp
            go_wp2
            obtain ⟨W3, hW3, e0, e1, hsz, hkp, hb3⟩ := room2_set wr w.heap.size _ _ (.string ⟨#[108, 111, 99, 107]⟩) (.int .i64 (L.length : Int)) m0 m1
            rw [← hW3]
            have HB3 := hideIt ((hb3 w.heap.size w HB.out (Nat.le_refl _)).trans ((below_drew W3).mono (hb3 w.heap.size w HB.out (Nat.le_refl _)).size))
            have HD3 := hideIt ((HDW.out.kept (hkp O (fun o => by have := HD.out.lt _ o; omega)) (by rw [hsz]; exact Nat.le_refl _)).next (below_drew W3))
            clear hW3 hb3 m0 m1 n0 n1
            refine bodyPost_ret (v := stepV 71 ⟨#[108, 111, 99, 107]⟩ (L.length : Int)) (by simp [results, Tryz.results8, go_sem, e0, e1, stepV]) rfl ?_
            exact ⟨_, _, _, O, L, rfl, HD3.out, Below.moveQ HB3.out, Or.inl ⟨Or.inr (Or.inr ⟨by omega, HALL.out, by have := HM.out; omega, rfl, rfl⟩), rfl, rfl⟩⟩
        · obtain ⟨M, hMM⟩ : ∃ M, (puts L who keys).length = M := ⟨_, rfl⟩
          rw [hMM] at hM t0 HDK
          have HM := hideIt hMM
          clear hMM
          go_wp2
          obtain ⟨W2, hW2⟩ : ∃ W2, W2 = wr.setCell ⟨q, 0, none⟩ (.slice at_ M ct) := ⟨_, rfl⟩
          rw [← hW2] at HDK
          have hqr : w.heap.size ≠ q := by omega
          have hg2 : wr.grownBy W2 (some q) := by rw [hW2]; exact ⟨rfl, rfl, rfl, by rw [size_set]; exact Nat.le_refl _, fun k _ hk => Below.heap_setCell wr ⟨q, 0, none⟩ _ k (fun e => hk (by rw [e]))⟩
          have hbr := hg2.block w.heap.size (lt_of_cell m0) (fun e => hqr (Option.some.inj e))
          have m0' := (World.cell?_of_block (a := ⟨w.heap.size, 0, none⟩) hbr).trans m0
          have m1' := (World.cell?_of_block (a := ⟨w.heap.size, 1, none⟩) hbr).trans m1
          obtain ⟨W3, hW3, e0, e1, hsz, hkp, _⟩ := room2_set W2 w.heap.size _ _ (.string ⟨#[]⟩) (.int .i64 0) m0' m1'
          rw [hW2] at hW3
          try rw [← hW3]
          have hnr : ¬ (O w.heap.size ∨ (Ot w.heap.size ∧ w.heap.size ≠ r1)) := fun o => by
            rcases o with o | o
            · have := HD.out.lt _ o; omega
            · rcases HOt.out _ o.1 with e | e
              · have := HD.out.lt _ e.1; omega
              · omega
          have HD3 := hideIt (HDK.out.kept (hkp _ hnr) (by rw [hsz]; exact Nat.le_refl _))
          have hk3 := hkp (fun j => j ≠ w.heap.size) (fun e => e rfl)
          have hz2 := hg2.size
          have hzw := HB.out.size
          have HMV : Hid (MoveQ w q O W3 (fun k => O k ∨ (Ot k ∧ k ≠ r1))) := hideIt ⟨⟨by rw [hW3]; exact HB.out.os, by rw [hW3]; exact HB.out.tape, by rw [hW3]; exact HB.out.output, by omega, fun j hj hn => ((hk3 j (by omega) (by omega)).trans (hg2.block j (by omega) (fun e2 => hn (Option.some.inj e2)))).trans (HB.out.block j hj)⟩, fun j hj => by
            rcases hj with hj | hj
            · exact Or.inl hj
            · rcases HOt.out j hj.1 with e | e
              · exact Or.inl e.1
              · exact Or.inr (by omega)⟩
          clear m0 m1 n0 n1 m0' m1'
          refine bodyPost_ret (v := stepV 0 ⟨#[]⟩ 0) (by simp [results, Tryz.results8, go_sem, e0, e1, stepV]) rfl ?_
          have HR : DLockIs L who keys 0 ⟨#[]⟩ 0 (puts L who keys) := Or.inr ⟨rfl, rfl, rfl, by omega, HALL.out, rfl, by have := HM.out; omega⟩
          refine ⟨0, ⟨#[]⟩, 0, rfl, (fun k => O k ∨ (Ot k ∧ k ≠ r1)), puts L who keys, ?_, ?_, HR⟩
          · exact HD3.out
          · exact HMV.out
end Go.Proofs.YtnojbejjlahhkaaGreatDoor
