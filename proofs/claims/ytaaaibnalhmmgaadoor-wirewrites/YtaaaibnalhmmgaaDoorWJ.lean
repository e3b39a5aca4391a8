/-
  What is proved here: the Reader's row of texts, over this program.
-/
import Derived.Test.YtaaaibnalhmmgaaDoorWI
namespace Go.Proofs.YtaaaibnalhmmgaaDoor
open Go.RowKit Go.Extern.Stop Go.Stop Go.Extern

theorem RowIn.over {w w' : World} {A A' : Nat → Prop} {v : Value} {n : Nat} {cs : List Value} (h : RowIn w A v n cs) (hk : Kept A w w') (hA : ∀ k, A k → k < w.heap.size → A' k) : RowIn w' A' v n cs := by
  obtain ⟨a, cap, h1, h2, h3⟩ := h
  refine ⟨a, cap, h1, h2, fun k x hx => ?_⟩
  obtain ⟨b, off, e1, e2, e3⟩ := h3 k x hx
  exact ⟨b, off, e1, hA b e2 (lt_of_cell (a := ⟨b, off + k, none⟩) e3), hk.cell (a := ⟨b, off + k, none⟩) e2 e3⟩

/-- a row of texts, all of it in blocks from B on; the texts' blocks are none of the row's -/
def TRow (w : World) (B : Nat) (v : Value) (acc : List (List UInt8)) : Prop :=
  ∃ vs : List Value, vs.length = acc.length ∧ w.ownsRow B 32 1 v acc.length vs ∧ (∀ u ∈ vs, u.oneCell' = true) ∧ ∀ (i : Nat) (s : List UInt8) (u : Value), acc[i]? = some s → vs[i]? = some u → BytesIn w (fun b => B ≤ b ∧ v.ownBlock ≠ some b) u s
theorem TRow.nil (w : World) (B : Nat) : TRow w B (.slice none 0 0) [] := ⟨[], rfl, World.ownsRow_nil _ _ _ _, (fun _ h => by cases h), fun i s u h => by simp at h⟩
theorem TRow.grown {w w' : World} {B p : Nat} {v : Value} {acc : List (List UInt8)} (h : TRow w B v acc) (hg : w.grownBy w' (some p)) (hp : p < B) : TRow w' B v acc := by
  obtain ⟨vs, h1, h2, h3, h4⟩ := h
  exact ⟨vs, h1, own_grown h2 hg hp, h3, fun i s u a b => (h4 i s u a b).kept (Kept.of_grown hg (fun h => by have := h.1; omega))⟩
theorem TRow.texts {w : World} {B : Nat} {v : Value} {acc : List (List UInt8)} {A : Nat → Prop} (h : TRow w B v acc) (hA : ∀ k, B ≤ k → A k) : TextsIn w A v acc := by
  obtain ⟨vs, h1, h2, h3, h4⟩ := h
  exact ⟨vs, h1, RowIn.of_own h2 hA, fun i s u a b => (h4 i s u a b).mono (fun k hk _ => hA k hk.1)⟩
theorem TRow.push {wr w2 w3 : World} {B : Nat} {v v' u : Value} {acc : List (List UInt8)} {vs : List Value} {x : List UInt8} {t : TypeId}
    (h1 : vs.length = acc.length) (h3 : ∀ u ∈ vs, u.oneCell' = true) (h4 : ∀ (i : Nat) (s : List UInt8) (u : Value), acc[i]? = some s → vs[i]? = some u → BytesIn w2 (fun b => B ≤ b ∧ v.ownBlock ≠ some b) u s) (hB : B ≤ wr.heap.size)
    (hx : BytesIn w2 (wr.heap.size ≤ ·) u x) (hlt : ∀ k, v.ownBlock = some k → k < wr.heap.size)
    (ho : w3.ownsRow B 32 1 v' (acc ++ [x]).length (vs ++ [u])) (hg : (w2.alloc (.cells #[u] t)).grownBy w3 v.ownBlock) (hat : v'.ownBlock = v.ownBlock ∨ v'.ownBlock = some (w2.heap.size + 1)) : TRow w3 B v' (acc ++ [x]) := by
  have hone : u.oneCell' = true := by obtain ⟨a, cap, rfl, _⟩ := hx.form; rfl
  have hk : Kept (fun b => B ≤ b ∧ v.ownBlock ≠ some b) w2 w3 := fun k ⟨_, hk2⟩ hl => by
    rw [hg.block k (by simp; omega) (fun e => hk2 e.symm)]
    exact Below.heap_alloc w2 _ k hl
  have hnew : ∀ b, (B ≤ b ∧ v.ownBlock ≠ some b) → b < w2.heap.size → (B ≤ b ∧ v'.ownBlock ≠ some b) := fun b hb hl => by
    refine ⟨hb.1, ?_⟩
    rcases hat with e | e
    · rw [e]; exact hb.2
    · rw [e]; simp; omega
  refine ⟨vs ++ [u], by simp [h1], ho, ?_, ?_⟩
  · intro y hy
    rcases List.mem_append.1 hy with h | h
    · exact h3 y h
    · simp at h; subst h; exact hone
  · intro i s y hs2 hy
    by_cases hi : i < acc.length
    · rw [List.getElem?_append_left hi] at hs2
      rw [List.getElem?_append_left (by omega)] at hy
      exact RowIn.over (h4 i s y hs2 hy) hk hnew
    · rw [List.getElem?_append_right (by omega)] at hs2 hy
      have e0 : i - acc.length = 0 := by
        rcases Nat.eq_zero_or_pos (i - acc.length) with h | h
        · exact h
        · rw [List.getElem?_eq_none (by simp; omega)] at hs2; cases hs2
      rw [e0] at hs2
      rw [h1, e0] at hy
      simp at hs2 hy
      subst hs2 hy
      have hx2 : BytesIn w2 (fun b => B ≤ b ∧ v.ownBlock ≠ some b) u x := hx.mono (fun b hb _ => ⟨by omega, fun e => by have := hlt b e; omega⟩)
      exact RowIn.over hx2 hk hnew

set_option maxRecDepth 100000 in
set_option maxHeartbeats 4000000 in
theorem rowT_any (p : Nat) (A A2 : Nat → Prop) (bs : List UInt8) (k : Nat) (w : World) (hr : ROk w p A bs k) (hp : ¬ A p) (hA : ∀ k, w.heap.size ≤ k → A2 k) (hl : bs.length ≤ 1000000000000) :
    Calls Tryd.prog 57 #[.pointer (some ⟨p, 0, none⟩), .func (.func 54) #[.pointer (some ⟨p, 0, none⟩)] #[]] w (HowPost w p A bs k (rdRow rdText (bs.drop k)) (isTexts A2)) := by
  obtain ⟨i0, hi, hi2⟩ := Option.map_eq_some_iff.1 infoBytes
  obtain ⟨hz0, hz1, hz2⟩ : i0.zero = some (.slice none 0 0) ∧ i0.size = 1 ∧ i0.bytes = 24 := by
    simp only [Prod.mk.injEq] at hi2; exact hi2
  have HI := hideIt (And.intro hi (And.intro hz0 (And.intro hz1 hz2)))
  clear hi2 hi hz0 hz1 hz2
  have HL := hideIt (length_any p (old A w.heap.size) bs k 1024 w hr.oldOf (fun h => hp h.1) hl)
  have HP : Hid (¬ old A w.heap.size p) := fun h => hp h.1
  have HA := hideIt hA
  have hk := hr.2.1
  have hpl := hr.lt
  obtain ⟨R, hR⟩ : ∃ R, R = rdLen 1024 (bs.drop k) := ⟨_, rfl⟩
  rw [← hR] at HL
  have HRR := hideIt hR
  clear hr hp hA hR
  match R with
  | .error n =>
    have HE : Hid (rdRow rdText (bs.drop k) = .error n) := by unfold Hid rdRow; rw [← HRR.out]
    go_enter Tryd.func57, Tryd.ntmps57
    go_wp2_with fail
    refine HL.out.mono ?_
    rintro e w1 ⟨hg, hn, v, k', rfl, hrk⟩
    have H1 := hideIt (And.intro hg hrk)
    have HN := hideIt hn
    clear hg hrk
    go_wp2
    go_ret2
    unfold HowPost
    rw [HE.out]
    exact ⟨H1.out.1, HN.out, _, k', rfl, H1.out.2.ofOld⟩
  | .ok (m, c) =>
    obtain ⟨⟨hm, rfl⟩, h4⟩ := rdLen_ok HRR.out.symm
    have HE := hideIt (rdRow_of (one := rdText) HRR.out.symm)
    rw [List.length_drop] at h4
    go_enter Tryd.func57, Tryd.ntmps57
    go_wp2_with fail
    refine HL.out.mono ?_
    rintro e w1 ⟨hg, v, rfl, hv, hrk⟩
    have hv2 : v = .int .i64 (m : Int) := hv
    subst hv2
    have H1 := hideIt (And.intro hg hrk)
    have hs1 := hg.size
    clear hg hrk hv
    go_wp2
    go_loopw [8, 20] (fun s i wr => ∃ (j : Nat) (acc : List (List UInt8)) (d : Nat), j ≤ m ∧ i = .int .i64 j ∧ acc.length = j ∧ Hid (behind [] 0 (rdMany rdText m ((bs.drop k).drop 4)) = behind acc d (rdMany rdText (m - j) (bs.drop (k + 4 + d)))) ∧ Hid (ROk wr p (old A w.heap.size) bs (k + 4 + d)) ∧ Hid (TRow wr w.heap.size s acc) ∧ Hid (w.grownBy wr (some p))) (fun _ i _ => m - (intOf i).toNat)
    case atStart => exact ⟨0, [], 0, Nat.zero_le _, rfl, rfl, by rw [List.drop_drop]; rfl, H1.out.2, TRow.nil _ _, H1.out.1⟩
    case round =>
      obtain ⟨j, acc, d, hj, rfl, hacc, HQ, HR, HO, HG⟩ := hrel
      have hsz := HG.out.size
      by_cases hlt : j < m
      · obtain ⟨q, hq⟩ : ∃ q, m - j = q + 1 := ⟨m - j - 1, by omega⟩
        have HN := hideIt (text_any p (old A w.heap.size) (wr.heap.size ≤ ·) bs (k + 4 + d) wr HR.out HP.out (fun _ h => h) hl)
        obtain ⟨R1, hR1⟩ : ∃ R1, rdText (bs.drop (k + 4 + d)) = R1 := ⟨_, rfl⟩
        rw [hR1] at HN
        have HR1 := hideIt hR1
        have HQQ := hideIt hq
        clear hR1 hq
        match R1 with
        | .error n =>
          have HE2 : Hid (rdRow rdText (bs.drop k) = .error n) := by unfold Hid; rw [HE.out, HQ.out, HQQ.out, rdMany_fail _ _ _ _ _ _ HR1.out]
          go_wp2_with fail
          refine HN.out.mono ?_
          rintro e w2 ⟨hg, hn, v, k', rfl, hrk⟩
          have H2 := hideIt (And.intro (grown_trans HG.out hg) hrk)
          have HN2 := hideIt hn
          clear hg hrk
          go_wp2
          go_ret2
          unfold HowPost
          rw [HE2.out]
          exact ⟨H2.out.1, HN2.out, _, k', rfl, H2.out.2.ofOld⟩
        | .ok (x, c) =>
          go_wp2_with fail
          refine HN.out.mono ?_
          rintro e w2 ⟨hg, v, rfl, hv, hrk⟩
          obtain ⟨a5, cap5, rfl, _⟩ := BytesIn.form hv
          have H2 := hideIt (And.intro (grown_trans HG.out hg) hrk)
          have HVX : Hid (BytesIn w2 (wr.heap.size ≤ ·) (.slice a5 x.length cap5) x) := hv
          obtain ⟨vs, hvl, hown, hone, htx⟩ := HO.out.grown hg hpl
          have HO2 := hideIt hown
          have HTX := hideIt (And.intro hvl (And.intro hone htx))
          have HLT := hideIt (fun k hk => (World.ownsRow.lt HO.out.choose_spec.2.1 k hk).2)
          have hs2 := hg.size
          clear hg hrk hv hown hone htx hvl
          go_wp2_with (at_builtin; refine wpList_append_own_at _ rfl _ _ 36 rfl w.heap.size 32 i0 (.slice none 0 0) 1 24 Tryd.underlying36 HI.out.1 HI.out.2.1 HI.out.2.2.1 HI.out.2.2.2 rfl (by decide) _ _ _ rfl (HO2.out.alloc _) ⟨w2.heap.size, 0, none⟩ 1 1 [.slice a5 x.length cap5] rfl rfl ?c1 ?c2 ?c3 ?c4 ?c5 ?_)
          case c1 => exact cell_one_new _ _ _
          case c2 => intro u hu; simp at hu; subst hu; rfl
          case c3 => unfold maxLen; omega
          case c4 => omega
          case c5 => simp; omega
          · intro v' w3 hown' hgrow _ hat
            have hb3 := (((Below.refl w.heap.size w2).alloc (by omega) _).grown hgrow (by simp; omega) (fun k hk => (HO2.out.lt k hk).1))
            have HRk : Hid (ROk w3 p (old A w.heap.size) bs (k + 4 + (d + c))) := by
              have := H2.out.2.past hb3 hpl; rw [Nat.add_assoc] at this; exact this
            have HG3 := hideIt (grown_then H2.out.1 hb3)
            have HT3 : Hid (TRow w3 w.heap.size v' (acc ++ [x])) :=
              TRow.push HTX.out.1 HTX.out.2.1 HTX.out.2.2 hsz HVX.out HLT.out (by rw [List.length_append, hacc]; exact hown') hgrow hat
            clear hgrow hown' hb3 hat
            go_wp2
            go_roundw
            case rel =>
              refine ⟨j + 1, acc ++ [x], d + c, by omega, by go_num, by simp [hacc], ?_, HRk.out, HT3.out, HG3.out⟩
              unfold Hid; rw [HQ.out, HQQ.out, rdMany_succ _ _ _ _ _ _ _ HR1.out, List.drop_drop]
              have : m - (j + 1) = q := by have := HQQ.out; omega
              rw [this, Nat.add_assoc]
            case measure => simp [intOf]; omega
      · have ej : m - j = 0 := by omega
        have HE2 : Hid (rdRow rdText (bs.drop k) = .ok (acc, 4 + d)) := by unfold Hid; rw [HE.out, HQ.out, ej]; simp [rdMany, behind]
        have HV := hideIt (HO.out.texts (fun k hk => HA.out k hk))
        clear ej
        go_wp2
        go_ret2
        unfold HowPost
        rw [HE2.out]
        exact ⟨HG.out, _, rfl, HV.out, by rw [← Nat.add_assoc]; exact HR.out.ofOld⟩
end Go.Proofs.YtaaaibnalhmmgaaDoor
