/-
  What is proved here: the statements' own signed (cohortlaw05), over this program.
-/
import Derived.Test.YtpgahjnjkihmhaaGreatDoorSH
import Derived.Test.YtpgahjnjkihmhaaGreatDoorSF
import Derived.Test.YtpgahjnjkihmhaaGreatDoorTrip
import Derived.Test.YtpgahjnjkihmhaaGreatDoorStep
import Derived.Deep.RegionWith
namespace Go.Proofs.YtpgahjnjkihmhaaGreatDoor
open Go.RowKit Go.Extern.Stop Go.Stop Go.Extern

/-- the seals L, once the first n of l were signed, too -/
def sealedTo (L : List (Int × Int)) (l : List Op4) : Nat → List (Int × Int)
  | 0 => L
  | n + 1 => match l[n]? with
    | some x => signs (sealedTo L l n) (memb x.1 x.2.1) x.2.2
    | none => sealedTo L l n
theorem sealedTo_succ {L : List (Int × Int)} {l : List Op4} {n : Nat} {x : Op4} (h : l[n]? = some x) : sealedTo L l (n + 1) = signs (sealedTo L l n) (memb x.1 x.2.1) x.2.2 := by
  show (match l[n]? with | some x => signs (sealedTo L l n) (memb x.1 x.2.1) x.2.2 | none => sealedTo L l n) = _
  rw [h]
theorem sealedTo_le (L : List (Int × Int)) (l : List Op4) (n : Nat) : (sealedTo L l n).length ≤ L.length + n := by
  induction n with
  | zero => exact Nat.le_refl _
  | succ n ih =>
    cases h : l[n]? with
    | none =>
      have : sealedTo L l (n + 1) = sealedTo L l n := by
        show (match l[n]? with | some x => signs (sealedTo L l n) (memb x.1 x.2.1) x.2.2 | none => sealedTo L l n) = _
        rw [h]
      rw [this]; omega
    | some x => rw [sealedTo_succ h]; have := signs_le (sealedTo L l n) (memb x.1 x.2.1) x.2.2; omega
theorem sealedTo_sub {L : List (Int × Int)} {x : Int × Int} (h : x ∈ L) (l : List Op4) (n : Nat) : x ∈ sealedTo L l n := by
  induction n with
  | zero => exact h
  | succ n ih =>
    cases hx : l[n]? with
    | none =>
      have : sealedTo L l (n + 1) = sealedTo L l n := by
        show (match l[n]? with | some x => signs (sealedTo L l n) (memb x.1 x.2.1) x.2.2 | none => sealedTo L l n) = _
        rw [hx]
      rw [this]; exact ih
    | some y => rw [sealedTo_succ hx, signs_mem]; exact Or.inl ih

/-- a Seals at p and the document's at q, both made behind w, with the seals L -/
def Both (w w' : World) (p q : Nat) (L : List (Int × Int)) : Prop :=
  ∃ (C : Nat) (O O2 : Nat → Prop), SealSt w' p O L ∧ DSSt w' q O2 L ∧ (∀ k, O k → w.heap.size ≤ k ∧ k < C) ∧ (∀ k, O2 k → C ≤ k ∧ k < w'.heap.size) ∧ w.heap.size ≤ C ∧ C ≤ w'.heap.size ∧ Below w.heap.size w w'

/-- the document's Sign, in one -/
theorem dsSign_any (w : World) (q : Nat) (O : Nat → Prop) (L : List (Int × Int)) (who d : Int) (h : DSSt w q O L) (hl : L.length < 131072) (hO : ∀ k, O k → k < w.heap.size) :
    Calls Tryz.prog 28 #[.pointer (some ⟨q, 0, none⟩), .int .i64 who, .int .i64 d] w fun e w' => ∃ n, e = .returned (.int .i64 n) ∧ ∃ O', DSSt w' q O' (signs L who d) ∧ Turn O w w' ∧ ∀ k, O' k → (O k ∨ w.heap.size ≤ k) ∧ k < w'.heap.size := by
  by_cases hk : okS who d
  · refine (dsSign_ok w q O L who d h hk hl).mono ?_
    rintro e w' ⟨rfl, h2⟩
    exact ⟨_, rfl, h2⟩
  · refine (dsSign_bad w q who d hk).mono ?_
    rintro e w' ⟨rfl, rfl⟩
    exact ⟨_, rfl, O, by rw [signs_not hk]; exact h, Turn.refl _ _, fun k hk => ⟨Or.inl hk, hO k hk⟩⟩

set_option maxRecDepth 100000 in
set_option maxHeartbeats 16000000 in
theorem signed_any (v : Value) (l : List Op4) (w : World) (hv : Ops4In w (· < w.heap.size) v l) (hll : l.length ≤ maxLen) (hok : ∀ y ∈ l, Op4Ok y) :
    Calls Tryz.prog 8 #[v] w fun e w' => ∃ p q, e = .returned (.tuple #[.pointer (some ⟨p, 0, none⟩), .pointer (some ⟨q, 0, none⟩)]) ∧ Both w w' p q (sealedTo [] l (min l.length 200)) := by
  have HY := hideIt hv
  have HK := hideIt hok
  obtain ⟨a, cap, rfl⟩ := hv.form
  unfold maxLen at hll
  clear hv hok
  go_enter Tryz.func8, Tryz.ntmps8
  go_wp2_with fail
  refine (sNew_any w).mono ?_
  rintro e w2 ⟨p, rfl, hs, hb⟩
  have HV2 := hideIt hb
  obtain ⟨O, HS2, HO⟩ : ∃ O : Nat → Prop, Hid (SealSt w2 p O []) ∧ Hid (∀ k, O k → w.heap.size ≤ k ∧ k < w2.heap.size) := ⟨_, hs, fun k hk => hk⟩
  clear hs hb
  obtain ⟨C, hC⟩ : ∃ C, w2.heap.size = C := ⟨_, rfl⟩
  have hal : Below w2.heap.size w2 (w2.alloc (.cells #[.slice none 0 0] 69)) := (Below.refl _ _).alloc (Nat.le_refl _) _
  have HD2 := hideIt (DSSt.new w2)
  have HV3 := hideIt (HV2.out.trans (hal.mono HV2.out.size))
  have HS3 := hideIt (HS2.out.kept (Kept.of_all hal))
  have hs3 : (w2.alloc (.cells #[.slice none 0 0] 69)).heap.size = C + 1 := by simp [hC]
  rw [hC] at HD2 HO
  have hwC : w.heap.size ≤ C := by rw [← hC]; exact HV2.out.size
  clear hal HV2 HS2
  go_wp2
  generalize w2.alloc (.cells #[.slice none 0 0] 69) = w3 at HD2 HV3 HS3 hs3 ⊢
  clear hC
  go_loopw [6] (fun i wr => ∃ (k : Nat) (O2 : Nat → Prop), k ≤ l.length ∧ k ≤ 200 ∧ i = .int .i64 k ∧ Hid (SealSt wr p O (sealedTo [] l k)) ∧ Hid (DSSt wr C O2 (sealedTo [] l k)) ∧ Hid (∀ j, O2 j → C ≤ j ∧ j < wr.heap.size) ∧ Hid (Below w.heap.size w wr) ∧ C ≤ wr.heap.size) (fun i _ => l.length - (intOf i).toNat)
  case atStart => exact ⟨0, _, Nat.zero_le _, by omega, rfl, HS3.out, HD2.out, fun j hj => by omega, HV3.out, by omega⟩
  case round =>
    clear HS3 HD2 HV3 hs3
    obtain ⟨k, O2, hk, hk2, rfl, HS, HD, HO2, HV, hCr⟩ := hrel
    by_cases hlt : k < l.length
    · by_cases h200 : k < 200
      · obtain ⟨x, hx⟩ : ∃ x, l[k]? = some x := ⟨l[k], by simp [hlt]⟩
        obtain ⟨b, off, rfl, hbw, c0, c1, c2⟩ := (HY.out.kept (Kept.of_below HV.out (fun _ h _ => h))).at hx
        have HX := hideIt (HK.out x (List.mem_of_getElem? hx))
        have HXS := hideIt (sealedTo_succ (L := []) hx)
        obtain ⟨L, hL⟩ : ∃ L, sealedTo [] l k = L := ⟨_, rfl⟩
        have hL2 : L.length < 131072 := by have := sealedTo_le [] l k; rw [hL] at this; simp at this; omega
        rw [hL] at HS HD HXS
        have HL2 := hideIt hL2
        have HBW := hideIt hbw
        clear hx hbw hL2 hL
        obtain ⟨m, hm⟩ : ∃ m, memb x.1 x.2.1 = m := ⟨_, rfl⟩
        have HM := hideIt (fits_memb x.1 x.2.1)
        rw [hm] at HM HXS
        have HMM : Hid (∀ w : World, Calls Tryz.prog 27 #[.int .i64 x.1, .int .i64 x.2.1] w fun e w' => e = .returned (.int .i64 m) ∧ Below w.heap.size w w') := hideIt (fun w => (dsMember_any x.1 x.2.1 w).mono (fun e w' h => ⟨by rw [h.1, hm], by rw [h.2]; exact Below.refl _ _⟩))
        have h200' : (k : Int) < 200 := by omega
        clear hm
        go_wp2
        refine wp_region_quiet_grow (by kernel_rfl) (by kernel_rfl) ?_
        intro ι _ f hf hn
        have e0 := fun i => ((hf i).cell (p := ⟨b, off + k * 3, none⟩) (lt_of_cell c0)).trans c0
        have e1 := fun i => ((hf i).cell (p := ⟨b, off + k * 3 + 1, none⟩) (lt_of_cell c1)).trans c1
        have HFF := hideIt hf
        have HN := hideIt hn
        clear hf hn
        repeat (go_big_quiet_step ((go_at_call 27; exact Calls.grow HN.out (HMM.out _))))
        refine wpQuiet_nil ?_
        rintro w8 ⟨i, rfl⟩
        have d2 := ((HFF.out i).cell (p := ⟨b, off + k * 3 + 2, none⟩) (lt_of_cell c2)).trans c2
        have HB8 := hideIt (HV.out.trans ((HFF.out i).mono HV.out.size))
        have HS8 := hideIt (HS.out.kept (Kept.of_all (HFF.out i)))
        have HD8 := hideIt (HD.out.kept (Kept.of_all (HFF.out i)))
        have hs8 := (HFF.out i).size
        have HO8 : Hid (∀ j, O2 j → C ≤ j ∧ j < (f i).heap.size) := hideIt (fun j hj => ⟨(HO2.out j hj).1, Nat.lt_of_lt_of_le (HO2.out j hj).2 hs8⟩)
        have hC8 : C ≤ (f i).heap.size := Nat.le_trans hCr hs8
        clear HFF HN e0 e1 hs8 HS HD HV HO2 c0 c1 c2 hCr
        generalize f i = w8 at d2 HB8 HS8 HD8 HO8 hC8 ⊢
        clear f
        have hbd : b < w8.heap.size := lt_of_cell d2
        go_wp2_with fail
        refine (dsSign_any w8 C O2 L m x.2.2 HD8.out HL2.out (fun j hj => (HO8.out j hj).2)).mono ?_
        rintro e w9 ⟨n, rfl, O3, hd9, ht9, ho9⟩
        have HD9 := hideIt hd9
        have HS9 := hideIt (HS8.out.kept (ht9.kept (fun j hj _ h2 => by have := (HO.out j hj).2; have := (HO8.out j h2).1; omega)))
        have HB9 := hideIt (HB8.out.trans (ht9.below (B := w.heap.size) (fun j hj => by have := (HO8.out j hj).1; omega) HB8.out.size))
        have e2 : w9.cell? ⟨b, off + k * 3 + 2, none⟩ = some (.int .i64 x.2.2) := (World.cell?_of_block (a := ⟨b, off + k * 3 + 2, none⟩) (ht9.block b hbd (fun h2 => by have := (HO8.out b h2).1; have := HBW.out; omega))).trans d2
        have HO9 : Hid (∀ j, O3 j → C ≤ j ∧ j < w9.heap.size) := hideIt (fun j hj => ⟨by rcases (ho9 j hj).1 with h | h; exact (HO8.out j h).1; omega, (ho9 j hj).2⟩)
        have hC9 : C ≤ w9.heap.size := Nat.le_trans hC8 ht9.size
        clear hd9 ht9 ho9 d2 HD8 HS8 HB8 HO8 hC8 hbd
        go_wp2_with fail
        refine (sSign_any w9 p O L m x.2.2 HS9.out HM.out HX.out.2.2 HL2.out).mono ?_
        rintro e w10 ⟨er, rfl, _, hs10, ht10⟩
        have HS10 := hideIt hs10
        have HD10 := hideIt (HD9.out.kept (ht10.kept (fun j hj _ h2 => by have := (HO.out j h2).2; have := (HO9.out j hj).1; omega)))
        have HB10 := hideIt (HB9.out.trans (ht10.below (B := w.heap.size) (fun j hj => (HO.out j hj).1) HB9.out.size))
        have HO10 : Hid (∀ j, O3 j → C ≤ j ∧ j < w10.heap.size) := hideIt (fun j hj => ⟨(HO9.out j hj).1, Nat.lt_of_lt_of_le (HO9.out j hj).2 ht10.size⟩)
        have hC10 : C ≤ w10.heap.size := Nat.le_trans hC9 ht10.size
        clear hs10 ht10 e2 HD9 HS9 HB9 HO9 hC9
        go_wp2
        go_roundw
        case rel => exact ⟨k + 1, O3, by omega, by omega, by go_num, by rw [HXS.out]; exact HS10.out, by rw [HXS.out]; exact HD10.out, HO10.out, HB10.out, hC10⟩
        case measure => simp [intOf]; omega
      · have EK : Hid (min l.length 200 = k) := hideIt (by omega)
        have h200' : ¬ (k : Int) < 200 := by omega
        go_wp2
        go_ret2
        exact ⟨p, C, rfl, by rw [EK.out]; exact ⟨C, O, O2, HS.out, HD.out, HO.out, HO2.out, hwC, hCr, HV.out⟩⟩
    · have EK : Hid (min l.length 200 = k) := hideIt (by omega)
      go_wp2
      go_ret2
      exact ⟨p, C, rfl, by rw [EK.out]; exact ⟨C, O, O2, HS.out, HD.out, HO.out, HO2.out, hwC, hCr, HV.out⟩⟩
end Go.Proofs.YtpgahjnjkihmhaaGreatDoor
