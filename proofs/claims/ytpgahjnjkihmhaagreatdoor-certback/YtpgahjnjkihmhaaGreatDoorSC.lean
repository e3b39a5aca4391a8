/-
  What is proved here: seals' Sign and Who, over this program.
-/
import Derived.Test.YtpgahjnjkihmhaaGreatDoorSB
namespace Go.Proofs.YtpgahjnjkihmhaaGreatDoor
open Go.RowKit Go.Extern.Stop Go.Stop Go.Extern

/-- the seals, once who signed d -/
def signs (L : List (Int × Int)) (who d : Int) : List (Int × Int) := if okS who d ∧ (who, d) ∉ L then L ++ [(who, d)] else L
theorem signs_le (L : List (Int × Int)) (who d : Int) : (signs L who d).length ≤ L.length + 1 := by
  unfold signs
  split <;> simp
theorem signs_mem (L : List (Int × Int)) (who d : Int) (x : Int × Int) : x ∈ signs L who d ↔ x ∈ L ∨ (okS who d ∧ x = (who, d)) := by
  unfold signs
  by_cases h : okS who d
  · by_cases hm : (who, d) ∈ L
    · rw [if_neg (fun e => e.2 hm)]
      constructor
      · exact Or.inl
      · rintro (e | ⟨_, rfl⟩)
        · exact e
        · exact hm
    · rw [if_pos ⟨h, hm⟩, List.mem_append, List.mem_singleton]
      constructor
      · rintro (e | e)
        · exact Or.inl e
        · exact Or.inr ⟨h, e⟩
      · rintro (e | ⟨_, e⟩)
        · exact Or.inl e
        · exact Or.inr e
  · rw [if_neg (fun e => h e.1)]
    constructor
    · exact Or.inl
    · rintro (e | ⟨e, _⟩)
      · exact e
      · exact absurd e h

theorem sSign_bad (w : World) (p : Nat) (who d : Int) (hf : fits who) (hbad : ¬ okS who d) :
    Calls Tryz.prog 29 #[.pointer (some ⟨p, 0, none⟩), .int .i64 who, .int .i64 d] w fun e w' => ∃ er, e = .returned er ∧ One w' (fun k => k = w.heap.size) er 1 ⟨#[115, 101, 97, 108, 115]⟩ who ∧ Below w.heap.size w w' := by
  have HF := hideIt hf
  clear hf
  by_cases hs : smb who
  · have h1 : decide (smb who) = true := by simp [hs]
    have h2 : d < 0 := by
      have : ¬ 0 ≤ d := fun h => hbad ⟨hs, h⟩
      omega
    clear hbad hs
    go_enter Tryz.func29, Tryz.ntmps29
    go_wp2_with fail
    refine (ssomebody_any who HF.out w).mono ?_
    rintro e w1 ⟨rfl, rfl⟩
    rw [h1]
    go_wp2_with fail
    refine (swrong_any _ 1 who (by decide)).mono ?_
    rintro e w2 ⟨er, rfl, ho, hb⟩
    have HO := hideIt ho
    have HB := hideIt hb
    obtain ⟨ty, y, rfl⟩ := ho.iface
    clear ho hb
    go_wp2
    go_ret
    exact ⟨_, rfl, HO.out, HB.out⟩
  · have h1 : decide (smb who) = false := by simp [hs]
    clear hbad hs
    go_enter Tryz.func29, Tryz.ntmps29
    go_wp2_with fail
    refine (ssomebody_any who HF.out w).mono ?_
    rintro e w1 ⟨rfl, rfl⟩
    rw [h1]
    go_wp2_with fail
    refine (swrong_any _ 1 who (by decide)).mono ?_
    rintro e w2 ⟨er, rfl, ho, hb⟩
    have HO := hideIt ho
    have HB := hideIt hb
    obtain ⟨ty, y, rfl⟩ := ho.iface
    clear ho hb
    go_wp2
    go_ret
    exact ⟨_, rfl, HO.out, HB.out⟩

set_option maxRecDepth 100000 in
set_option maxHeartbeats 8000000 in
theorem sSign_ok (w : World) (p : Nat) (O : Nat → Prop) (L : List (Int × Int)) (who d : Int) (h : SealSt w p O L) (hd : fits d) (hok : okS who d) (hl : L.length < 131072) :
    Calls Tryz.prog 29 #[.pointer (some ⟨p, 0, none⟩), .int .i64 who, .int .i64 d] w fun e w' => e = .returned .nilIface ∧ SealSt w' p O (signs L who d) ∧ Turn O w w' := by
  have H := hideIt h
  have HF := hideIt (And.intro (fits_smb hok.1) hd)
  have HK := hideIt hok
  have h1 : decide (smb who) = true := by simp [hok.1]
  have h2 : ¬ d < 0 := by have := hok.2; omega
  clear h hd hok
  by_cases hm : (who, d) ∈ L
  · have h3 : decide ((who, d) ∈ L) = true := by simp [hm]
    have HE : Hid (signs L who d = L) := by unfold signs; exact if_neg (fun e => e.2 hm)
    clear hm
    go_enter Tryz.func29, Tryz.ntmps29
    go_wp2_with fail
    refine (ssomebody_any who HF.out.1 w).mono ?_
    rintro e w1 ⟨rfl, rfl⟩
    rw [h1]
    go_wp2_with fail
    refine (sSigned_any _ p O L who d H.out HF.out.1 HF.out.2).mono ?_
    rintro e w2 ⟨rfl, hb⟩
    have HB := hideIt hb
    rw [h3]
    clear h3 hb
    go_wp2
    go_ret
    exact ⟨rfl, by rw [HE.out]; exact H.out.kept (Kept.of_all HB.out), Turn.of_below HB.out⟩
  · have h3 : decide ((who, d) ∈ L) = false := by simp [hm]
    have HE : Hid (signs L who d = L ++ [(who, d)]) := by unfold signs; exact if_pos ⟨HK.out, hm⟩
    have HN := hideIt hm
    clear hm
    go_enter Tryz.func29, Tryz.ntmps29
    go_wp2_with fail
    refine (ssomebody_any who HF.out.1 w).mono ?_
    rintro e w1 ⟨rfl, rfl⟩
    rw [h1]
    go_wp2_with fail
    refine (sSigned_any _ p O L who d H.out HF.out.1 HF.out.2).mono ?_
    rintro e w2 ⟨rfl, hb⟩
    have HB := hideIt hb
    have HS := hideIt (H.out.kept (Kept.of_all hb))
    rw [h3]
    clear h3 hb
    go_wp2_with fail
    refine (sMany_any _ p O L HS.out).mono ?_
    rintro e w3 ⟨rfl, rfl⟩
    obtain ⟨m, D, c0, hm, ht, o1, o2, _⟩ := HS.out
    have HM := hideIt hm
    have HT := hideIt ht
    have HO := hideIt (And.intro o1 o2)
    have hpm : p ≠ m := fun e => by
      obtain ⟨es, clock, hb, _⟩ := hm
      subst e
      simp [World.cell?, hb] at c0
    clear hm ht o1 o2
    have HL := hideIt hl
    obtain ⟨N, hN, h4⟩ : ∃ N : Int, (L.length : Int) = N ∧ ¬ 131072 ≤ N := ⟨_, rfl, by omega⟩
    rw [hN]
    have hkey := key_seal HF.out.1 HF.out.2
    have hval := unitElem_mk (H := Unit)
    clear hl h1 h2 hN
    go_wp2_with (at_mapUpdate; refine wpList_mapUpdate_own _ rfl _ _ _ 107 rfl 119 117 sealLaw Tryz.underlying107 _ m L.length D rfl HM.out ?k6 _ _ _ rfl rfl hkey _ [] hval ?_)
    case k6 => have := HL.out; unfold maxLen; omega
    intro w4 hown hgrow
    have HG := hideIt hgrow
    have HW := hideIt hown
    clear hgrow hown
    go_wp2
    go_ret
    have hpl := lt_of_cell (a := ⟨p, 0, none⟩) c0
    have hpb : w4.heap[p]? = w3.heap[p]? := HG.out.block p hpl (fun e => hpm (by injection e))
    refine ⟨rfl, ?_, (Turn.of_below HB.out).trans (Turn.of_grown HG.out (fun g hg _ => by cases hg; exact HO.out.2)) (fun k hk => Or.inl hk)⟩
    rw [HE.out]
    refine ⟨m, _, (World.cell?_of_block (a := ⟨p, 0, none⟩) hpb).trans c0, by simpa using HW.out, HT.out.put (HW.out.tidy sealLaw) HK.out HF.out.2 HN.out, HO.out.1, HO.out.2, by have := HL.out; simp; omega⟩

/-- the places below k of the group g that signed d -/
def whoTo (L : List (Int × Int)) (g d : Int) (k : Nat) : List Int := ((List.range k).filter (fun i : Nat => decide ((memb g (i : Int), d) ∈ L))).map (fun i : Nat => (i : Int))
theorem whoTo_succ (L : List (Int × Int)) (g d : Int) (k : Nat) : whoTo L g d (k + 1) = whoTo L g d k ++ (if (memb g k, d) ∈ L then [(k : Int)] else []) := by
  unfold whoTo
  rw [List.range_succ, List.filter_append, List.map_append]
  congr 1
  by_cases h : (memb g k, d) ∈ L
  · simp [h]
  · simp [h]
theorem whoTo_le (L : List (Int × Int)) (g d : Int) (k : Nat) : (whoTo L g d k).length ≤ k := by
  unfold whoTo
  rw [List.length_map]
  exact Nat.le_trans (List.length_filter_le _ _) (by simp)
theorem fits_memb (g i : Int) : fits (memb g i) := by
  unfold fits memb
  split <;> omega

set_option maxRecDepth 100000 in
set_option maxHeartbeats 8000000 in
theorem sWho_any (w : World) (p : Nat) (O : Nat → Prop) (L : List (Int × Int)) (g d : Int) (h : SealSt w p O L) (hd : fits d) :
    Calls Tryz.prog 30 #[.pointer (some ⟨p, 0, none⟩), .int .i64 g, .int .i64 d] w fun e w' => ∃ v, e = .returned v ∧ w'.ownsRow w.heap.size 3 1 v (whoTo L g d 10).length (numCells (whoTo L g d 10)) ∧ Below w.heap.size w w' := by
  have H := hideIt h
  have HD := hideIt hd
  clear h hd
  obtain ⟨i0, hi, hi2⟩ := Option.map_eq_some_iff.1 infoI
  obtain ⟨hz0, hz1, hz2⟩ : i0.zero = some (.int .i64 0) ∧ i0.size = 1 ∧ i0.bytes = 8 := by
    simp only [Prod.mk.injEq] at hi2; exact hi2
  have HI := hideIt (And.intro hi (And.intro hz0 (And.intro hz1 hz2)))
  clear hi2 hi hz0 hz1 hz2
  go_enter Tryz.func30, Tryz.ntmps30
  go_wp2
  go_loopw [7, 9] (fun pl i wr => ∃ (k n : Nat) (aa : Option Addr) (ac : Nat), k ≤ 10 ∧ n ≤ k ∧ i = .int .i64 k ∧ pl = .slice aa n ac ∧ Hid (n = (whoTo L g d k).length) ∧ Hid (wr.ownsRow w.heap.size 3 1 (.slice aa n ac) n (numCells (whoTo L g d k))) ∧ Hid (Below w.heap.size w wr)) (fun _ i _ => 10 - (intOf i).toNat)
  case atStart => exact ⟨0, 0, none, 0, by omega, by omega, rfl, rfl, rfl, World.ownsRow_nil _ _ _ 1, Below.refl _ _⟩
  case round =>
    obtain ⟨k, n, aa, ac, hk, hn, rfl, rfl, HN, HR, HB⟩ := hrel
    by_cases hlt : k < 10
    · have HS := hideIt (H.out.kept (Kept.of_all HB.out))
      go_wp2_with fail
      refine (sMember_any g k _).mono ?_
      rintro e w1 ⟨rfl, rfl⟩
      go_wp2_with fail
      refine (sSigned_any _ p O L (memb g k) d HS.out (fits_memb _ _) HD.out).mono ?_
      rintro e w2 ⟨rfl, hb⟩
      have HB2 := hideIt (HB.out.trans (hb.mono HB.out.size))
      have HR2 : Hid (w2.ownsRow w.heap.size 3 1 (.slice aa n ac) n (numCells (whoTo L g d k))) := ownsRow_of_block HR.out (fun q hq => hb.block q (ownsRow_lt HR.out hq))
      have HE := hideIt (whoTo_succ L g d k)
      clear hb
      by_cases hm : (memb g k, d) ∈ L
      · have h3 : decide ((memb g k, d) ∈ L) = true := by simp [hm]
        rw [h3]
        have HE2 : Hid (whoTo L g d (k + 1) = whoTo L g d k ++ [(k : Int)]) := by have := HE.out; rw [if_pos hm] at this; exact this
        clear hm h3
        go_wp2_with (at_builtin; refine wpList_append_own_at _ rfl _ _ 22 rfl w.heap.size 3 i0 (.int .i64 0) 1 8 Tryz.underlying22 HI.out.1 HI.out.2.1 HI.out.2.2.1 HI.out.2.2.2 rfl (by decide) _ _ _ rfl (HR2.out.alloc _) ⟨w2.heap.size, 0, none⟩ 1 1 [.int .i64 k] rfl rfl ?k1 ?k2 ?k3 ?k4 ?k5 ?_)
        case k1 => exact cell_one_new _ _ _
        case k2 => intro u hu; simp at hu; subst hu; rfl
        case k3 => unfold maxLen; omega
        case k4 => omega
        case k5 => have := HB2.out.size; simp; omega
        intro v' w5 hown' hgrow _ hat
        have HG5 := hideIt (grown_trans (World.grownBy_alloc w2 _ _) hgrow)
        have HO5 : Hid (w5.ownsRow w.heap.size 3 1 v' (n + 1) (numCells (whoTo L g d (k + 1)))) := hideIt (by rw [HE2.out]; simpa [numCells] using hown')
        obtain ⟨a', cap', hv'⟩ := own_form hown'
        subst hv'
        clear hown' hgrow hat
        go_wp2
        refine ⟨⟨k + 1, n + 1, a', cap', by omega, by omega, by go_num, rfl, ?_, HO5.out, ?_⟩, by simp [intOf]; omega⟩
        · have := HN.out
          have e := HE2.out
          exact hideIt (by rw [e]; simp; exact this)
        · exact HB2.out.trans ⟨HG5.out.os, HG5.out.tape, HG5.out.output, HG5.out.size, fun j hj => HG5.out.block j (by have := HB2.out.size; omega) (fun e => by have := (HR2.out.lt j e.symm).1; omega)⟩
      · have h3 : decide ((memb g k, d) ∈ L) = false := by simp [hm]
        rw [h3]
        have HE2 : Hid (whoTo L g d (k + 1) = whoTo L g d k) := by have := HE.out; rw [if_neg hm, List.append_nil] at this; exact this
        clear hm h3
        go_wp2
        refine ⟨⟨k + 1, n, aa, ac, by omega, by omega, by go_num, rfl, ?_, ?_, HB2.out⟩, by simp [intOf]; omega⟩
        · have e := HE2.out
          have := HN.out
          exact hideIt (by rw [e]; exact this)
        · have e := HE2.out
          exact hideIt (by rw [e]; exact HR2.out)
    · have ek : k = 10 := by omega
      subst ek
      go_wp2
      go_ret
      have := HN.out
      exact ⟨_, rfl, by rw [← this]; exact HR.out, HB.out⟩
end Go.Proofs.YtpgahjnjkihmhaaGreatDoor
