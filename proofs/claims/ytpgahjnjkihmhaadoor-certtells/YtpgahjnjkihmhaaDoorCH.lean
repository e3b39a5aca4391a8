/-
  What is proved here: the statements' own told (cohortlaw05), and the document's Same and Check of certificates, over this program.
-/
import Derived.Test.YtpgahjnjkihmhaaDoorCE
import Derived.Test.YtpgahjnjkihmhaaDoorSame
import Derived.Test.YtpgahjnjkihmhaaDoorSH
import Derived.Test.YtpgahjnjkihmhaaDoorStep
import Derived.Deep.RegionWith
namespace Go.Proofs.YtpgahjnjkihmhaaDoor
open Go.RowKit Go.Extern.Stop Go.Stop Go.Extern

theorem told5_none (v : Value) (w : World) : Calls Tryd.prog 14 #[.nilIface, .int .i64 0, v] w fun e w' => e = .returned (.bool true) ∧ Below w.heap.size w w' := by
  go_enter Tryd.func14, Tryd.ntmps14
  go_wp2
  go_ret
  exact ⟨rfl, Below.refl _ _⟩

set_option maxRecDepth 100000 in
set_option maxHeartbeats 8000000 in
theorem told5_one (v lv : Value) (n : Int) (s : ByteArray) (k : Int) (w0 w : World) (h : At w0 n v [(s, k)] w) (hl : Steps w w.heap.size lv [(s, k)]) (hn : (n == 0) = false) : Calls Tryd.prog 14 #[v, .int .i64 n, lv] w fun e w' => e = .returned (.bool true) ∧ Below w.heap.size w w' := by
  have HA1 := hideIt h
  have HL1 := hideIt hl
  obtain ⟨ty, y, rfl⟩ := h.ch.iface
  obtain ⟨a, cap, rfl, _⟩ := hl
  clear h
  go_enter Tryd.func14, Tryd.ntmps14
  go_wp2_with fail
  refine HA1.out.code.mono ?_
  rintro e w2 ⟨rfl, HA2, HB2⟩
  go_wp2_with fail
  refine (HA2.out.trail (by simp)).mono ?_
  rintro e w3 ⟨a3, cap3, rfl, HS3, HA3, HB3⟩
  have HB4 : Hid (Below w.heap.size w w3) := HB2.out.trans (HB3.out.mono HB2.out.size)
  have HL3 := hideIt (HL1.out.kept HB4.out)
  go_wp2_with fail
  refine (Same_true _ _ _ _ [(s, k)] _ HS3.out HL3.out (by simp)).mono ?_
  rintro e w4 ⟨rfl, b4⟩
  have HB5 : Hid (Below w.heap.size w w4) := HB4.out.trans (b4.mono HB4.out.size)
  clear b4
  go_wp2
  go_ret
  exact ⟨rfl, HB5.out⟩

set_option maxRecDepth 100000 in
set_option maxHeartbeats 8000000 in
theorem dcSame_true (A B : Nat → Prop) (g d : Int) (x y : Value) (l : List Int) (w : World) (hx : NumsIn w A x l) (hy : NumsIn w B y l) (hlen : l.length ≤ 1000000) :
    Calls Tryd.prog 13 #[.agg #[.int .i64 g, .int .i64 d, x], .agg #[.int .i64 g, .int .i64 d, y]] w fun e w' => e = .returned (.bool true) ∧ Below w.heap.size w w' := by
  have H1 := hideIt hx
  have H2 := hideIt hy
  have HL := hideIt hlen
  obtain ⟨a1, cap1, rfl⟩ := hx.form
  obtain ⟨a2, cap2, rfl⟩ := hy.form
  clear hx hy hlen
  go_enter Tryd.func13, Tryd.ntmps13
  go_wp2_with fail
  have hb : Below w.heap.size w ((w.alloc (.cells #[.int .i64 g, .int .i64 d, .slice a1 l.length cap1] 25)).alloc (.cells #[.int .i64 g, .int .i64 d, .slice a2 l.length cap2] 25)) := ((Below.refl _ _).alloc (Nat.le_refl _) _).alloc (by simp) _
  refine (SameInts_true A B _ _ l _ (RowIn.kept H1.out (Kept.of_all hb)) (RowIn.kept H2.out (Kept.of_all hb)) HL.out).mono ?_
  rintro e w3 ⟨rfl, hb3⟩
  have HB3 := hideIt (hb.trans (hb3.mono hb.size))
  clear hb hb3
  go_wp2
  go_ret
  exact ⟨rfl, HB3.out⟩

/-- a Step's room, just made -/
theorem room2_new (w : World) (t : TypeId) (x y : Value) : ∃ W, W = w.alloc (.cells #[x, y] t) ∧ Below w.heap.size w W ∧ W.heap.size = w.heap.size + 1 ∧ W.cell? ⟨w.heap.size, 0, none⟩ = some x ∧ W.cell? ⟨w.heap.size, 1, none⟩ = some y ∧ W.frozen? ⟨w.heap.size, 0, none⟩ = false ∧ W.frozen? ⟨w.heap.size, 1, none⟩ = false := by
  refine ⟨_, rfl, (Below.refl _ _).alloc (Nat.le_refl _) _, by simp, ?_, ?_, World.frozen?_alloc_at _ _ _ _ rfl, World.frozen?_alloc_at _ _ _ _ rfl⟩
  · rw [World.cell?_alloc_at _ _ _ _ rfl]; rfl
  · rw [World.cell?_alloc_at _ _ _ _ rfl]; rfl
/-- a Step's room, written -/
theorem room2_set (w : World) (q : Nat) (x y X Y : Value) (c0 : w.cell? ⟨q, 0, none⟩ = some x) (c1 : w.cell? ⟨q, 1, none⟩ = some y) :
    ∃ W, W = (w.setCell ⟨q, 0, none⟩ X).setCell ⟨q, 1, none⟩ Y ∧ W.cell? ⟨q, 0, none⟩ = some X ∧ W.cell? ⟨q, 1, none⟩ = some Y ∧ (∀ A : Nat → Prop, ¬ A q → Kept A w W) ∧ ∀ B w0, Below B w0 w → B ≤ q → Below B w0 W := by
  have n01 : (⟨q, 0, none⟩ : Addr) ≠ ⟨q, 1, none⟩ := by simp
  have a0 := World.cell?_setCell_same w ⟨q, 0, none⟩ X c0
  have a1 : (w.setCell ⟨q, 0, none⟩ X).cell? ⟨q, 1, none⟩ = some y := (World.cell?_setCell_other _ _ _ _ n01).trans c1
  refine ⟨_, rfl, (World.cell?_setCell_other _ _ _ _ n01.symm).trans a0, World.cell?_setCell_same _ ⟨q, 1, none⟩ Y a1, fun A hA k hk _ => ?_, fun B w0 hb hq => (hb.setCell (p := ⟨q, 0, none⟩) hq X).setCell (p := ⟨q, 1, none⟩) hq Y⟩
  have hne : k ≠ q := fun e => hA (e ▸ hk)
  rw [Below.heap_setCell _ ⟨q, 1, none⟩ _ _ hne, Below.heap_setCell _ ⟨q, 0, none⟩ _ _ hne]

theorem chk_wrong {L : List (Int × Int)} {g d : Int} {S : List Int} {need : Int} {k : Nat} {x n : Int} (hN : wrongTo L g d S k = none) (hx : S[k]? = some x) (hw : whyS L g d S k x = n) (hn : n ≠ 0) : chk L g d S need = some (n, ⟨#[115, 105, 103, 110, 101, 114]⟩, (k : Int)) := by
  have h1 : wrongTo L g d S (k + 1) = some (n, k) := by
    unfold wrongTo; rw [hN, hx]; simp only [Option.getD_some, hw, if_neg hn]
  have hk := (List.getElem?_eq_some_iff.1 hx).1
  have h2 := wrongTo_stays h1 (S.length - (k + 1))
  rw [show k + 1 + (S.length - (k + 1)) = S.length by omega] at h2
  unfold chk; rw [h2]
theorem wrongTo_next {L : List (Int × Int)} {g d : Int} {S : List Int} {k : Nat} {x : Int} (hN : wrongTo L g d S k = none) (hx : S[k]? = some x) (hw : whyS L g d S k x = 0) : wrongTo L g d S (k + 1) = none := by
  unfold wrongTo; rw [hN, hx]; simp only [Option.getD_some, hw, if_true]
theorem chk_end {L : List (Int × Int)} {g d : Int} {S : List Int} {need : Int} (hN : wrongTo L g d S S.length = none) : chk L g d S need = if need < 1 ∨ (S.length : Int) < need then some (51, ⟨#[99, 104, 101, 99, 107]⟩, (S.length : Int)) else none := by
  unfold chk; rw [hN]

/-- what the document's Check answers -/
def told3 (o : Option (Int × ByteArray × Int)) : Value :=
  match o with
  | none => .tuple #[.int .i64 0, .agg #[.string ⟨#[]⟩, .int .i64 0]]
  | some (n, s, k) => .tuple #[.int .i64 n, .agg #[.string s, .int .i64 k]]

set_option maxRecDepth 100000 in
set_option maxHeartbeats 16000000 in
theorem dcCheck_any (w : World) (q : Nat) (O A : Nat → Prop) (L : List (Int × Int)) (g d : Int) (v : Value) (S : List Int) (need : Int) (hs : DSSt w q O L) (hL : L.length ≤ 131072) (hv : NumsIn w A v S) (hl : S.length ≤ maxLen) :
    Calls Tryd.prog 12 #[.pointer (some ⟨q, 0, none⟩), .agg #[.int .i64 g, .int .i64 d, v], .int .i64 need] w fun e w' => e = .returned (told3 (chk L g d S need)) ∧ Below w.heap.size w w' := by
  have HL := hideIt hL
  have HS := hideIt hs
  have HV := hideIt hv
  obtain ⟨a, cap, rfl⟩ := hv.form
  unfold maxLen at hl
  clear hs hL hv
  obtain ⟨W, hW, hwb, hws, c0, c1, c2, _, _, _⟩ := room_new w 25 (.int .i64 g) (.int .i64 d) (.slice a S.length cap)
  obtain ⟨V, hV, hvb, hvs, r0, r1, g0, g1⟩ := room2_new W 37 (.string ⟨#[]⟩) (.int .i64 0)
  rw [hws] at r0 r1 g0 g1
  have hwv := hwb.trans (hvb.mono hwb.size)
  have HW := hideIt hwv
  have HSW := hideIt (HS.out.kept (Kept.of_all hwv))
  have HVW : Hid (NumsIn V A (.slice a S.length cap) S) := RowIn.kept HV.out (Kept.of_all hwv)
  have d0 := (hvb.cell (lt_of_cell c0)).trans c0
  have d1 := (hvb.cell (lt_of_cell c1)).trans c1
  have d2 := (hvb.cell (lt_of_cell c2)).trans c2
  clear hwb hws HS HV hvb hvs hwv c0 c1 c2
  go_enter Tryd.func12, Tryd.ntmps12
  go_wp2
  rw [← hW, ← hV]
  clear hW hV
  go_loopw [8] (fun i wr => ∃ k : Nat, k ≤ S.length ∧ i = .int .i64 k ∧ Hid (wrongTo L g d S k = none) ∧ Hid (Below V.heap.size V wr)) (fun i _ => S.length - (intOf i).toNat)
  case atStart => exact ⟨0, Nat.zero_le _, rfl, rfl, Below.refl _ _⟩
  case round =>
    obtain ⟨k, hk, rfl, HN, HB⟩ := hrel
    have t0 := (HB.out.cell (lt_of_cell d0)).trans d0
    have t1 := (HB.out.cell (lt_of_cell d1)).trans d1
    have t2 := (HB.out.cell (lt_of_cell d2)).trans d2
    have s0 := (HB.out.cell (lt_of_cell r0)).trans r0
    have s1 := (HB.out.cell (lt_of_cell r1)).trans r1
    have z0 := (HB.out.frozen (p := ⟨w.heap.size + 1, 0, none⟩) (lt_of_cell r0)).trans g0
    have z1 := (HB.out.frozen (p := ⟨w.heap.size + 1, 1, none⟩) (lt_of_cell r1)).trans g1
    by_cases hlt : k < S.length
    · obtain ⟨x, hx⟩ : ∃ x, S[k]? = some x := ⟨S[k], by simp [hlt]⟩
      have HX := hideIt hx
      have HR0 : Hid (NumsIn wr A (.slice a S.length cap) S) := RowIn.kept HVW.out (Kept.of_all HB.out)
      have HS0 := hideIt (HSW.out.kept (Kept.of_all HB.out))
      obtain ⟨b, off, rfl, _, cx⟩ := NumsIn.at HR0.out hx
      obtain ⟨m, hm⟩ : ∃ m, memb g x = m := ⟨_, rfl⟩
      have HMM : Hid (∀ w : World, Calls Tryd.prog 20 #[.int .i64 g, .int .i64 x] w fun e w' => e = .returned (.int .i64 m) ∧ Below w.heap.size w w') := hideIt (fun w => (dsMember_any g x w).mono (fun e w' h => ⟨by rw [h.1, hm], by rw [h.2]; exact Below.refl _ _⟩))
      have HM := hideIt hm
      clear hx hm
      go_wp2
      refine wp_region_quiet_grow (by kernel_rfl) (by kernel_rfl) ?_
      intro ι _ f hf hn
      have q0 := fun i => ((hf i).cell (lt_of_cell t0)).trans t0
      have q1 := fun i => ((hf i).cell (lt_of_cell t1)).trans t1
      have q2 := fun i => ((hf i).cell (lt_of_cell t2)).trans t2
      have qx := fun i => ((hf i).cell (lt_of_cell cx)).trans cx
      have HFF := hideIt hf
      have HNN := hideIt hn
      clear hf hn
      repeat (go_big_quiet_step ((go_at_call 20; exact Calls.grow HNN.out (HMM.out _))))
      refine wpQuiet_nil ?_
      rintro w8 ⟨i, rfl⟩
      replace HB := hideIt (HB.out.trans ((HFF.out i).mono HB.out.size))
      replace HS0 := hideIt (HS0.out.kept (Kept.of_all (HFF.out i)))
      replace HR0 : Hid (NumsIn (f i) A (.slice (some ⟨b, off, none⟩) S.length cap) S) := RowIn.kept HR0.out (Kept.of_all (HFF.out i))
      replace z0 := ((HFF.out i).frozen (p := ⟨w.heap.size + 1, 0, none⟩) (lt_of_cell s0)).trans z0
      replace z1 := ((HFF.out i).frozen (p := ⟨w.heap.size + 1, 1, none⟩) (lt_of_cell s1)).trans z1
      replace s0 := ((HFF.out i).cell (lt_of_cell s0)).trans s0
      replace s1 := ((HFF.out i).cell (lt_of_cell s1)).trans s1
      replace t0 := q0 i
      replace t1 := q1 i
      replace t2 := q2 i
      replace cx := qx i
      clear q0 q1 q2 qx HFF HNN HMM
      generalize f i = w8 at HB HS0 HR0 s0 s1 z0 z1 t0 t1 t2 cx ⊢
      clear f
      by_cases hm0 : m < 0
      · have HWH : Hid (whyS L g d S k x = 52) := hideIt (whyS_who (Or.inl (by rw [HM.out]; exact hm0)))
        have HC : Hid (chk L g d S need = some (52, ⟨#[115, 105, 103, 110, 101, 114]⟩, (k : Int))) := hideIt (chk_wrong HN.out HX.out HWH.out (by decide))
        go_wp2
        refine wp_region_quiet_grow (by kernel_rfl) (by kernel_rfl) ?_
        intro ι _ f hf hn
        have Qt0 := fun i => ((hf i).cell (lt_of_cell t0)).trans t0
        have Qt1 := fun i => ((hf i).cell (lt_of_cell t1)).trans t1
        have Qt2 := fun i => ((hf i).cell (lt_of_cell t2)).trans t2
        have Qcx := fun i => ((hf i).cell (lt_of_cell cx)).trans cx
        have HFF := hideIt hf
        clear hf hn
        repeat (go_big_quiet_step (fail))
        refine wpQuiet_nil ?_
        rintro w9 ⟨i, rfl⟩
        replace HB := hideIt (HB.out.trans ((HFF.out i).mono HB.out.size))
        replace HS0 := hideIt (HS0.out.kept (Kept.of_all (HFF.out i)))
        replace z0 := ((HFF.out i).frozen (p := ⟨w.heap.size + 1, 0, none⟩) (lt_of_cell s0)).trans z0
        replace z1 := ((HFF.out i).frozen (p := ⟨w.heap.size + 1, 1, none⟩) (lt_of_cell s1)).trans z1
        replace s0 := ((HFF.out i).cell (lt_of_cell s0)).trans s0
        replace s1 := ((HFF.out i).cell (lt_of_cell s1)).trans s1
        replace t0 := Qt0 i
        replace t1 := Qt1 i
        replace t2 := Qt2 i
        replace cx := Qcx i
        clear Qt0 Qt1 Qt2 Qcx HFF HR0
        generalize f i = w9 at HB HS0 s0 s1 z0 z1 t0 t1 t2 cx ⊢
        clear f
        go_wp2
        obtain ⟨W3, hW3, e0, e1, _, hb3⟩ := room2_set w9 (w.heap.size + 1) _ _ (.string ⟨#[115, 105, 103, 110, 101, 114]⟩) (.int .i64 (k : Int)) s0 s1
        rw [← hW3]
        have HB3 := hideIt (hb3 w.heap.size w (HW.out.trans (HB.out.mono HW.out.size)) (by omega))
        clear hW3 hb3 s0 s1 z0 z1
        refine bodyPost_ret (v := .tuple #[.int .i64 52, .agg #[.string ⟨#[115, 105, 103, 110, 101, 114]⟩, .int .i64 (k : Int)]]) (by simp [results, Tryd.results12, go_sem, e0, e1]) rfl ?_
        exact ⟨by rw [HC.out]; rfl, HB3.out⟩
      · have hk0 : k = 0 ∨ ∃ j y, k = j + 1 ∧ S[j]? = some y := by
          cases k with
          | zero => exact Or.inl rfl
          | succ j => exact Or.inr ⟨j, S[j], rfl, by simp⟩
        have hmd : decide (m < 0) = false := by simpa using hm0
        rcases hk0 with rfl | ⟨j, y, rfl, hy⟩
        · have HNO : Hid (¬ (memb g x < 0 ∨ (0 < 0 ∧ x ≤ (S[0 - 1]?).getD 0))) := hideIt (by rw [HM.out]; omega)
          go_wp2
          refine wp_region_quiet_grow (by kernel_rfl) (by kernel_rfl) ?_
          intro ι _ f hf hn
          have Qt0 := fun i => ((hf i).cell (lt_of_cell t0)).trans t0
          have Qt1 := fun i => ((hf i).cell (lt_of_cell t1)).trans t1
          have Qt2 := fun i => ((hf i).cell (lt_of_cell t2)).trans t2
          have Qcx := fun i => ((hf i).cell (lt_of_cell cx)).trans cx
          have HFF := hideIt hf
          clear hf hn
          repeat (go_big_quiet_step (fail))
          refine wpQuiet_nil ?_
          rintro w9 ⟨i, rfl⟩
          replace HB := hideIt (HB.out.trans ((HFF.out i).mono HB.out.size))
          replace HS0 := hideIt (HS0.out.kept (Kept.of_all (HFF.out i)))
          replace z0 := ((HFF.out i).frozen (p := ⟨w.heap.size + 1, 0, none⟩) (lt_of_cell s0)).trans z0
          replace z1 := ((HFF.out i).frozen (p := ⟨w.heap.size + 1, 1, none⟩) (lt_of_cell s1)).trans z1
          replace s0 := ((HFF.out i).cell (lt_of_cell s0)).trans s0
          replace s1 := ((HFF.out i).cell (lt_of_cell s1)).trans s1
          replace t0 := Qt0 i
          replace t1 := Qt1 i
          replace t2 := Qt2 i
          replace cx := Qcx i
          clear Qt0 Qt1 Qt2 Qcx HFF HR0
          generalize f i = w9 at HB HS0 s0 s1 z0 z1 t0 t1 t2 cx ⊢
          clear f
          go_wp2_with fail
          refine (dsSigned_any _ q O L m d HS0.out HL.out).mono ?_
          by_cases hin : (m, d) ∈ L
          · have HWH : Hid (whyS L g d S 0 x = 0) := hideIt (whyS_ok HNO.out (by rw [HM.out]; exact hin))
            rw [show decide ((m, d) ∈ L) = true by simp [hin]]
            rintro e wZ ⟨rfl, rfl⟩
            clear hin
            go_wp2
            exact ⟨⟨0 + 1, by omega, by go_num, wrongTo_next HN.out HX.out HWH.out, HB.out⟩, by simp [intOf]; omega⟩
          · have HWH : Hid (whyS L g d S 0 x = 53) := hideIt (whyS_seal HNO.out (by rw [HM.out]; exact hin))
            have HC : Hid (chk L g d S need = some (53, ⟨#[115, 105, 103, 110, 101, 114]⟩, (0 : Int))) := hideIt (chk_wrong HN.out HX.out HWH.out (by decide))
            rw [show decide ((m, d) ∈ L) = false by simp [hin]]
            rintro e wZ ⟨rfl, rfl⟩
            clear hin
            go_wp2
            obtain ⟨W3, hW3, e0, e1, _, hb3⟩ := room2_set wZ (w.heap.size + 1) _ _ (.string ⟨#[115, 105, 103, 110, 101, 114]⟩) (.int .i64 0) s0 s1
            rw [← hW3]
            have HB3 := hideIt (hb3 w.heap.size w (HW.out.trans (HB.out.mono HW.out.size)) (by omega))
            clear hW3 hb3 s0 s1 z0 z1
            refine bodyPost_ret (v := .tuple #[.int .i64 53, .agg #[.string ⟨#[115, 105, 103, 110, 101, 114]⟩, .int .i64 0]]) (by simp [results, Tryd.results12, go_sem, e0, e1]) rfl ?_
            exact ⟨by rw [HC.out]; rfl, HB3.out⟩
        · obtain ⟨_, _, hbe, _, cy⟩ := NumsIn.at HR0.out hy
          cases hbe
          by_cases hxy : x ≤ y
          · have HWH : Hid (whyS L g d S (j + 1) x = 52) := hideIt (whyS_who (Or.inr ⟨by omega, by rw [Nat.add_sub_cancel, hy]; exact hxy⟩))
            have HC : Hid (chk L g d S need = some (52, ⟨#[115, 105, 103, 110, 101, 114]⟩, ((j + 1 : Nat) : Int))) := hideIt (chk_wrong HN.out HX.out HWH.out (by decide))
            clear hy
            go_wp2
            refine wp_region_quiet_grow (by kernel_rfl) (by kernel_rfl) ?_
            intro ι _ f hf hn
            have Qt0 := fun i => ((hf i).cell (lt_of_cell t0)).trans t0
            have Qt1 := fun i => ((hf i).cell (lt_of_cell t1)).trans t1
            have Qt2 := fun i => ((hf i).cell (lt_of_cell t2)).trans t2
            have Qcx := fun i => ((hf i).cell (lt_of_cell cx)).trans cx
            have Qcy := fun i => ((hf i).cell (lt_of_cell cy)).trans cy
            have HFF := hideIt hf
            clear hf hn
            repeat (go_big_quiet_step (fail))
            refine wpQuiet_nil ?_
            rintro w9 ⟨i, rfl⟩
            replace HB := hideIt (HB.out.trans ((HFF.out i).mono HB.out.size))
            replace HS0 := hideIt (HS0.out.kept (Kept.of_all (HFF.out i)))
            replace z0 := ((HFF.out i).frozen (p := ⟨w.heap.size + 1, 0, none⟩) (lt_of_cell s0)).trans z0
            replace z1 := ((HFF.out i).frozen (p := ⟨w.heap.size + 1, 1, none⟩) (lt_of_cell s1)).trans z1
            replace s0 := ((HFF.out i).cell (lt_of_cell s0)).trans s0
            replace s1 := ((HFF.out i).cell (lt_of_cell s1)).trans s1
            replace t0 := Qt0 i
            replace t1 := Qt1 i
            replace t2 := Qt2 i
            replace cx := Qcx i
            replace cy := Qcy i
            clear Qt0 Qt1 Qt2 Qcx Qcy HFF HR0
            generalize f i = w9 at HB HS0 s0 s1 z0 z1 t0 t1 t2 cx cy ⊢
            clear f
            go_wp2
            obtain ⟨W3, hW3, e0, e1, _, hb3⟩ := room2_set w9 (w.heap.size + 1) _ _ (.string ⟨#[115, 105, 103, 110, 101, 114]⟩) (.int .i64 ((j : Int) + 1)) s0 s1
            rw [← hW3]
            have HB3 := hideIt (hb3 w.heap.size w (HW.out.trans (HB.out.mono HW.out.size)) (by omega))
            clear hW3 hb3 s0 s1 z0 z1
            refine bodyPost_ret (v := .tuple #[.int .i64 52, .agg #[.string ⟨#[115, 105, 103, 110, 101, 114]⟩, .int .i64 ((j : Int) + 1)]]) (by simp [results, Tryd.results12, go_sem, e0, e1]) rfl ?_
            exact ⟨by rw [HC.out]; rfl, HB3.out⟩
          · have HNO : Hid (¬ (memb g x < 0 ∨ (0 < j + 1 ∧ x ≤ (S[j + 1 - 1]?).getD 0))) := hideIt (by rw [HM.out, Nat.add_sub_cancel, hy]; simp; omega)
            clear hy
            go_wp2
            refine wp_region_quiet_grow (by kernel_rfl) (by kernel_rfl) ?_
            intro ι _ f hf hn
            have Qt0 := fun i => ((hf i).cell (lt_of_cell t0)).trans t0
            have Qt1 := fun i => ((hf i).cell (lt_of_cell t1)).trans t1
            have Qt2 := fun i => ((hf i).cell (lt_of_cell t2)).trans t2
            have Qcx := fun i => ((hf i).cell (lt_of_cell cx)).trans cx
            have Qcy := fun i => ((hf i).cell (lt_of_cell cy)).trans cy
            have HFF := hideIt hf
            clear hf hn
            repeat (go_big_quiet_step (fail))
            refine wpQuiet_nil ?_
            rintro w9 ⟨i, rfl⟩
            replace HB := hideIt (HB.out.trans ((HFF.out i).mono HB.out.size))
            replace HS0 := hideIt (HS0.out.kept (Kept.of_all (HFF.out i)))
            replace z0 := ((HFF.out i).frozen (p := ⟨w.heap.size + 1, 0, none⟩) (lt_of_cell s0)).trans z0
            replace z1 := ((HFF.out i).frozen (p := ⟨w.heap.size + 1, 1, none⟩) (lt_of_cell s1)).trans z1
            replace s0 := ((HFF.out i).cell (lt_of_cell s0)).trans s0
            replace s1 := ((HFF.out i).cell (lt_of_cell s1)).trans s1
            replace t0 := Qt0 i
            replace t1 := Qt1 i
            replace t2 := Qt2 i
            replace cx := Qcx i
            replace cy := Qcy i
            clear Qt0 Qt1 Qt2 Qcx Qcy HFF HR0
            generalize f i = w9 at HB HS0 s0 s1 z0 z1 t0 t1 t2 cx cy ⊢
            clear f
            go_wp2_with fail
            refine (dsSigned_any _ q O L m d HS0.out HL.out).mono ?_
            by_cases hin : (m, d) ∈ L
            · have HWH : Hid (whyS L g d S (j + 1) x = 0) := hideIt (whyS_ok HNO.out (by rw [HM.out]; exact hin))
              rw [show decide ((m, d) ∈ L) = true by simp [hin]]
              rintro e wZ ⟨rfl, rfl⟩
              clear hin
              go_wp2
              exact ⟨⟨(j + 1) + 1, by omega, by go_num, wrongTo_next HN.out HX.out HWH.out, HB.out⟩, by simp [intOf]; omega⟩
            · have HWH : Hid (whyS L g d S (j + 1) x = 53) := hideIt (whyS_seal HNO.out (by rw [HM.out]; exact hin))
              have HC : Hid (chk L g d S need = some (53, ⟨#[115, 105, 103, 110, 101, 114]⟩, ((j + 1) : Int))) := hideIt (chk_wrong HN.out HX.out HWH.out (by decide))
              rw [show decide ((m, d) ∈ L) = false by simp [hin]]
              rintro e wZ ⟨rfl, rfl⟩
              clear hin
              go_wp2
              obtain ⟨W3, hW3, e0, e1, _, hb3⟩ := room2_set wZ (w.heap.size + 1) _ _ (.string ⟨#[115, 105, 103, 110, 101, 114]⟩) (.int .i64 ((j : Int) + 1)) s0 s1
              rw [← hW3]
              have HB3 := hideIt (hb3 w.heap.size w (HW.out.trans (HB.out.mono HW.out.size)) (by omega))
              clear hW3 hb3 s0 s1 z0 z1
              refine bodyPost_ret (v := .tuple #[.int .i64 53, .agg #[.string ⟨#[115, 105, 103, 110, 101, 114]⟩, .int .i64 ((j : Int) + 1)]]) (by simp [results, Tryd.results12, go_sem, e0, e1]) rfl ?_
              exact ⟨by rw [HC.out]; rfl, HB3.out⟩
    · have ek : k = S.length := by omega
      have HW2 : Hid (wrongTo L g d S S.length = none) := hideIt (by rw [← ek]; exact HN.out)
      clear ek HN
      have hcs : need < 1 ∨ (¬ need < 1 ∧ (S.length : Int) < need) ∨ (¬ need < 1 ∧ ¬ (S.length : Int) < need) := by omega
      rcases hcs with h1 | ⟨h1, h2⟩ | ⟨h1, h2⟩
      · have HC : Hid (chk L g d S need = some (51, ⟨#[99, 104, 101, 99, 107]⟩, (S.length : Int))) := hideIt ((chk_end HW2.out).trans (if_pos (Or.inl h1)))
        go_wp2
        go_region
        all_goals
          go_wp2
          obtain ⟨W3, hW3, e0, e1, _, hb3⟩ := room2_set wr (w.heap.size + 1) _ _ (.string ⟨#[99, 104, 101, 99, 107]⟩) (.int .i64 (S.length : Int)) s0 s1
          rw [← hW3]
          have HB3 := hideIt (hb3 w.heap.size w (HW.out.trans (HB.out.mono HW.out.size)) (by omega))
          clear hW3 hb3 s0 s1 z0 z1
          refine bodyPost_ret (v := .tuple #[.int .i64 51, .agg #[.string ⟨#[99, 104, 101, 99, 107]⟩, .int .i64 (S.length : Int)]]) (by simp [results, Tryd.results12, go_sem, e0, e1]) rfl ?_
          exact ⟨by rw [HC.out]; rfl, HB3.out.drew⟩
      · have HC : Hid (chk L g d S need = some (51, ⟨#[99, 104, 101, 99, 107]⟩, (S.length : Int))) := hideIt ((chk_end HW2.out).trans (if_pos (Or.inr h2)))
        go_wp2
        go_region
        all_goals
          go_wp2
          obtain ⟨W3, hW3, e0, e1, _, hb3⟩ := room2_set wr (w.heap.size + 1) _ _ (.string ⟨#[99, 104, 101, 99, 107]⟩) (.int .i64 (S.length : Int)) s0 s1
          rw [← hW3]
          have HB3 := hideIt (hb3 w.heap.size w (HW.out.trans (HB.out.mono HW.out.size)) (by omega))
          clear hW3 hb3 s0 s1 z0 z1
          refine bodyPost_ret (v := .tuple #[.int .i64 51, .agg #[.string ⟨#[99, 104, 101, 99, 107]⟩, .int .i64 (S.length : Int)]]) (by simp [results, Tryd.results12, go_sem, e0, e1]) rfl ?_
          exact ⟨by rw [HC.out]; rfl, HB3.out.drew⟩
      · have HC : Hid (chk L g d S need = none) := hideIt ((chk_end HW2.out).trans (if_neg (by omega)))
        go_wp2
        obtain ⟨W3, hW3, e0, e1, _, hb3⟩ := room2_set wr (w.heap.size + 1) _ _ (.string ⟨#[]⟩) (.int .i64 0) s0 s1
        rw [← hW3]
        have HB3 := hideIt (hb3 w.heap.size w (HW.out.trans (HB.out.mono HW.out.size)) (by omega))
        clear hW3 hb3 s0 s1 z0 z1
        refine bodyPost_ret (v := .tuple #[.int .i64 0, .agg #[.string ⟨#[]⟩, .int .i64 0]]) (by simp [results, Tryd.results12, go_sem, e0, e1]) rfl ?_
        exact ⟨by rw [HC.out]; rfl, HB3.out⟩
end Go.Proofs.YtpgahjnjkihmhaaDoor
