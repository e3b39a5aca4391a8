/-
  What is proved here: merkle's Check; over this program.
-/
import Derived.Test.YtmhbfplaglipnaaGreatDoorMT
namespace Go.Proofs.YtmhbfplaglipnaaGreatDoor
open Go.RowKit Go.Extern.Stop Go.Stop Go.Extern

theorem cnt_most {F m f lo n : Nat} (hn : n ≤ f) : cnt F m f lo n ≤ max 1 n := by
  induction f generalizing lo n with
  | zero => simp [cnt]
  | succ f ih =>
    unfold cnt
    split
    · omega
    · split
      · omega
      · by_cases h0 : n = 0
        · subst h0
          rename_i h1 _
          cases f with
          | zero => simp [cnt]
          | succ f =>
            have a := ih (lo := lo) (n := pw 0) (by have : pw 0 = 1 := by decide
                                                    omega)
            have b := ih (lo := lo + pw 0) (n := 0 - pw 0) (by omega)
            have c : pw 0 = 1 := by decide
            rw [c] at a b ⊢
            have d : cnt F m (f + 1) lo 1 = 0 ∨ Out F m lo 1 := by
              by_cases h : Out F m lo 1
              · exact Or.inr h
              · left; unfold cnt; rw [if_neg h]; rfl
            unfold Out at h1 d
            rcases d with d | d <;> omega
        · have := pw_lt (n := n) (by omega)
          have := pw_pos n
          have a := ih (lo := lo) (n := pw n) (by omega)
          have b := ih (lo := lo + pw n) (n := n - pw n) (by omega)
          omega
theorem cntN_most (F m lo n : Nat) : cntN F m lo n ≤ max 1 n := cnt_most (by omega)

/-- an error of merkle's own, or none -/
def ErrM (w : World) (A : Nat → Prop) (er : Value) (c : Int) : Prop := (c = 0 ∧ er = .nilIface) ∨ (c ≠ 0 ∧ One w A er c ⟨#[109, 101, 114, 107, 108, 101]⟩ 0)
/-- what Check finds -/
def ChkRes (T : List (List UInt8)) (N F : Int) (L : List Ent) (Bs : List Int) (root c : Int) : Prop :=
  (c = 0 ∧ Shaped N F L Bs ∧ RootMade T N.toNat F.toNat L Bs root) ∨ (c = 62 ∧ ¬ Shaped N F L Bs) ∨ (c = 61 ∧ Shaped N F L Bs ∧ ∃ d, d ≠ root ∧ RootMade T N.toNat F.toNat L Bs d)
/-- a proof as it came in -/
structure ProofOk (w : World) (O : Nat → Prop) (N F : Int) (vl vb : Value) (L : List Ent) (Bs : List Int) : Prop where
  ap : ProofAp w O vl vb L Bs
  fN : fits N
  fF : fits F
  fE : ∀ e ∈ L, fits e.2.2
  fB : ∀ d ∈ Bs, fits d
  lL : L.length ≤ maxLen
  lB : Bs.length ≤ maxLen
theorem ProofOk.next {w w' : World} {O : Nat → Prop} {N F : Int} {vl vb : Value} {L : List Ent} {Bs : List Int} (h : ProofOk w O N F vl vb L Bs) (hb : Below w.heap.size w w') : ProofOk w' O N F vl vb L Bs :=
  { h with ap := ⟨h.ap.1.next hb, RowIn.mono (RowIn.kept h.ap.2 (Kept.of_all hb)) (fun _ hk hl => ⟨hl, hk.2⟩)⟩ }
theorem ProofOk.goes {w w' : World} {O O' : Nat → Prop} {T T' : List (List UInt8)} {c : Nat} {N F : Int} {vl vb : Value} {L : List Ent} {Bs : List Int} (h : ProofOk w O N F vl vb L Bs) (hg : Goes w O T w' O' T' c) : ProofOk w' O' N F vl vb L Bs :=
  { h with ap := ⟨h.ap.1.goes hg, RowIn.mono (RowIn.kept h.ap.2 (hg.turn.kept (fun _ hk _ => hk.2))) (fun _ hk hl => ⟨hl, hg.not hk.1 hk.2⟩)⟩ }

set_option maxRecDepth 100000 in
set_option maxHeartbeats 8000000 in
theorem mCheck_any (w : World) (p : Nat) (O : Nat → Prop) (T : List (List UInt8)) (root N F : Int) (vl vb : Value) (L : List Ent) (Bs : List Int) (h : Bk w p O T) (hp : ProofOk w O N F vl vb L Bs) (hT : T.length + 2048 ≤ 65536) :
    Calls Tryz.prog 15 #[.pointer (some ⟨p, 0, none⟩), .int .i64 root, .agg #[.int .i64 N, .int .i64 F, vl, vb]] w fun e w' => ∃ (er : Value) (c : Int) (O' : Nat → Prop) (T' : List (List UInt8)), e = .returned er ∧ Bk w' p O' T' ∧ Goes w O T w' O' T' 2048 ∧ ErrM w' (fun k => w.heap.size ≤ k ∧ ¬ O' k) er c ∧ ChkRes T' N F L Bs root c := by
  have H := hideIt (And.intro h hp)
  have HT := hideIt hT
  obtain ⟨al, cl, rfl⟩ := hp.ap.1.form
  obtain ⟨ab, cb, rfl⟩ := NumsIn.form hp.ap.2
  obtain ⟨W, hW, hwb, hws, ⟨c0, c1, c2, c3⟩, _⟩ := room4 w 25 (.int .i64 N) (.int .i64 F) (.slice al L.length cl) (.slice ab Bs.length cb)
  have HW := hideIt (And.intro (h.next hwb) (hp.next hwb))
  have HS := hideIt (mshaped_any W _ _ N F (.slice al L.length cl) (.slice ab Bs.length cb) L Bs HW.out.2.ap.1 HW.out.2.ap.2 hp.lL hp.lB hp.fN hp.fF)
  have HWB := hideIt hwb
  have HWS := hideIt hws
  clear h hp hT hwb hws
  go_enter Tryz.func15, Tryz.ntmps15
  go_wp2_with fail
  rw [← hW]
  clear hW
  refine HS.out.mono ?_
  rintro e w1 ⟨b, rfl, hb, hbl⟩
  have HB := hideIt hb
  have HB1 := hideIt hbl
  have d0 := (hbl.cell (lt_of_cell c0)).trans c0
  have d1 := (hbl.cell (lt_of_cell c1)).trans c1
  have d2 := (hbl.cell (lt_of_cell c2)).trans c2
  have d3 := (hbl.cell (lt_of_cell c3)).trans c3
  clear hb hbl HS c0 c1 c2 c3
  cases b with
  | false =>
    have HNO : Hid (¬ Shaped N F L Bs) := hideIt (fun h => by have := HB.out.2 h; cases this)
    go_wp2_with fail
    refine (mwrong_any w1 62 (by decide)).mono ?_
    rintro e w2 ⟨er, rfl, ho, hb2⟩
    have HO := hideIt ho
    have HB2 := hideIt hb2
    obtain ⟨ty, y, rfl⟩ := ho.iface
    clear ho hb2 d0 d1 d2 d3
    go_wp2
    go_ret
    have hb := (HWB.out.trans (HB1.out.mono HWB.out.size)).trans (HB2.out.mono (Nat.le_trans HWB.out.size HB1.out.size))
    have hs := HWB.out.size
    have hs1 := HB1.out.size
    exact ⟨_, 62, O, T, rfl, H.out.1.next hb, (Goes.of_below hb).more (by omega), Or.inr ⟨by decide, HO.out.mono (fun k hk _ => ⟨by omega, fun o => by have := H.out.1.2 _ o; omega⟩)⟩, Or.inr (Or.inl ⟨rfl, HNO.out⟩)⟩
  | true =>
    have HSH : Hid (Shaped N F L Bs) := hideIt (HB.out.1 rfl)
    obtain ⟨N', hN'⟩ : ∃ N' : Nat, N = N' := ⟨N.toNat, by have := HSH.out.1; omega⟩
    obtain ⟨F', hF'⟩ : ∃ F' : Nat, F = F' := ⟨F.toNat, by have := HSH.out.2.2.1; omega⟩
    subst hN' hF'
    have HM : Hid (F' + L.length ≤ N' ∧ N' ≤ 1024 ∧ Bs.length = cntN F' L.length 0 N') := hideIt (by obtain ⟨a1, _, a3, a4, _⟩ := HSH.out; simp only [Int.toNat_natCast] at a4; exact ⟨by omega, by omega, a4⟩)
    have HLB : Hid (Bs.length ≤ 100000) := hideIt (by have := cntN_most F' L.length 0 N'; have := HM.out; omega)
    have HCO : Hid (cost N' + 1 ≤ 2048) := hideIt (by have := HM.out.2.1; unfold cost; split <;> omega)
    go_wp2_with fail
    have hb1 := HWB.out.trans (HB1.out.mono HWB.out.size)
    refine (mrootMade_any w1 p O T N' F' _ _ L Bs (H.out.1.next hb1) (H.out.2.next hb1).ap (right_ok HSH.out.2.1 H.out.2.fE) HM.out.1 HM.out.2.1 H.out.2.fB HM.out.2.2 HLB.out (by have := HT.out; have := HCO.out; omega)).mono ?_
    rintro e w2 ⟨d, O2, T2, rfl, g1, g2, g3, g4⟩
    have HG := hideIt (And.intro g1 (And.intro ((Goes.pre hb1 g2).more HCO.out) (And.intro g3 g4)))
    clear g1 g2 g3 g4 hb1 d0 d1 d2 d3
    by_cases hd : (d : Int) = root
    · have hd2 : ((d : Int) != root) = false := by simp [hd]
      have HD := hideIt hd
      clear hd
      go_wp2
      go_ret
      obtain ⟨g1, g2, g3, g4⟩ := HG.out
      rw [HD.out] at g3
      exact ⟨_, 0, O2, T2, rfl, g1, g2, Or.inl ⟨rfl, rfl⟩, Or.inl ⟨rfl, HSH.out, g3⟩⟩
    · have hd2 : ((d : Int) != root) = true := by simp [hd]
      have HD := hideIt hd
      clear hd
      go_wp2_with fail
      refine (mwrong_any w2 61 (by decide)).mono ?_
      rintro e w3 ⟨er, rfl, ho, hb2⟩
      have HO := hideIt ho
      have HB2 := hideIt hb2
      obtain ⟨ty, y, rfl⟩ := ho.iface
      clear ho hb2
      go_wp2
      go_ret
      obtain ⟨g1, g2, g3, g4⟩ := HG.out
      exact ⟨_, 61, O2, T2, rfl, g1.next HB2.out, (g2.trans (Goes.of_below HB2.out)).more (by omega), Or.inr ⟨by decide, HO.out.mono (fun k hk _ => ⟨by have := g2.turn.size; omega, fun o => by have := g1.2 _ o; omega⟩)⟩, Or.inr (Or.inr ⟨rfl, HSH.out, d, HD.out, g3⟩)⟩
end Go.Proofs.YtmhbfplaglipnaaGreatDoor
