/-
  What is proved here: the statement's function cohortlaw02.WireSizes returns true, over this program. Conditions: the Ops lie in memory as slices of them do; the library's variables lie as they are laid.
-/
import Derived.Test.YtaaaibnalhmmgaaDoorWU
namespace Go.Proofs.YtaaaibnalhmmgaaDoor
open Go.RowKit Go.Extern.Stop Go.Stop Go.Extern

set_option maxRecDepth 100000 in
set_option maxHeartbeats 8000000 in
theorem law_sizes (sl : Value) (l : List OpD) (w : World) (hs : OpsIn w (· < w.heap.size) sl l) (hlen : l.length ≤ maxLen) (hok : ∀ x ∈ l, OpOk x) (hg : ET w) (ht : PT w) :
    Calls Tryd.prog 6 #[sl] w fun e w' => e = .returned (.bool true) ∧ Below w.heap.size w w' := by
  have HH := hideIt (head_true w hg ht)
  have HE := hideIt (And.intro hg ht)
  have HS := hideIt hs
  have HZ := hideIt (And.intro hlen hok)
  obtain ⟨a, cap, rfl, hs0⟩ := hs
  clear hs0
  unfold maxLen at hlen
  clear hg ht hok
  go_enter Tryd.func6, Tryd.ntmps6
  go_wp2_with fail
  refine HH.out.mono ?_
  rintro e w0 ⟨rfl, b0⟩
  have HV0 : Hid (Env w w0) := ⟨b0, HE.out⟩
  have HS0 := hideIt (HS.out.kept (Kept.of_all b0))
  clear b0 HH HE HS
  go_wp2_with fail
  refine (Great_any _ _ l w0 HS0.out HZ.out.1 HZ.out.2).mono ?_
  rintro e w1 ⟨⟨g, rfl, hgr⟩, b1⟩
  have HV1 := hideIt (HV0.out.next b1)
  have HS1 := hideIt (HS0.out.kept (Kept.of_all b1))
  clear b1 HV0 HS0
  cases g
  · have HWT : Hid (opsW l < 400000) := hgr rfl
    clear hgr
    go_wp2
    have hpw : w.heap.size ≤ w1.heap.size := HV1.out.1.size
    have hal : Below w1.heap.size w1 (w1.alloc (.cells #[.pointer none, .int .i64 0, .nilIface] 30)) := (Below.refl _ _).alloc (Nat.le_refl _) _
    have HW2 := hideIt (fresh_writer w1)
    have HV2 := hideIt (HV1.out.next hal)
    have HS2 := hideIt (HS1.out.kept (Kept.of_all hal))
    obtain ⟨p, hp⟩ : ∃ p, p = w1.heap.size := ⟨_, rfl⟩
    have hps : w.heap.size ≤ p := by omega
    have hpl2 : p < (w1.alloc (.cells #[.pointer none, .int .i64 0, .nilIface] 30)).heap.size := by rw [hp]; simp
    rw [← hp] at HW2 ⊢
    generalize w1.alloc (.cells #[.pointer none, .int .i64 0, .nilIface] 30) = w2 at HW2 HV2 HS2 hpl2 ⊢
    clear hal hpw HV1 HS1 hp
    go_loopw [5, 6, 7] (fun n s i wr => ∃ (k : Nat) (bs : List UInt8), k ≤ l.length ∧ i = .int .i64 k ∧ n = .int .i64 bs.length ∧ s = .string ⟨bs.toArray⟩ ∧ bs.length ≤ 400000 ∧ Hid (bs.length ≤ opsW (l.take k)) ∧ Hid (WSt wr p (fun k => k ≠ p) (bs, false)) ∧ Hid (Env w wr) ∧ Hid (OpsIn wr (· < w.heap.size) (.slice a l.length cap) l) ∧ p < wr.heap.size) (fun _ _ i _ => l.length - (intOf i).toNat)
    case atStart => exact ⟨0, [], Nat.zero_le _, rfl, rfl, rfl, by simp, Nat.zero_le _, HW2.out, HV2.out, HS2.out, hpl2⟩
    case round =>
      obtain ⟨k, bs, hk, rfl, rfl, rfl, hbl, HBL, HW, HV, HSr, hpl⟩ := hrel
      by_cases hlt : k < l.length
      · obtain ⟨x, hx⟩ : ∃ x, l[k]? = some x := ⟨l[k], by simp [hlt]⟩
        obtain ⟨a', cap', e1, hst⟩ := HSr.out
        cases e1
        obtain ⟨b, off, vs, vl, vm, rfl, hbb, c0, c1, c2, c3, c4, y2, y3, y4⟩ := hst k x hx
        have HY2 := hideIt y2
        have HY3 := hideIt y3
        have HY4 := hideIt y4
        obtain ⟨a2, cap2, rfl, _⟩ := y2.form
        obtain ⟨a3, cap3, rfl⟩ := y3.form
        obtain ⟨a4, cap4, rfl⟩ := y4.form
        have HOK := hideIt (HZ.out.2 x (List.mem_of_getElem? hx))
        have HWX : Hid (opsW (l.take k) + opW x ≤ opsW l) := opW_le l k x hx
        have HTK := hideIt (opsW_take l k x hx)
        have hbp : b ≠ p := by omega
        have hlm2 : (OpD.s x).length ≤ 400000 := by have h1 := HWX.out; have h2 := HWT.out; unfold opW at h1; omega
        have hlm3 : (OpD.l x).length ≤ 9223372036854775807 := HOK.out.2.2.2.1.1
        have hlm4 : (OpD.m x).length ≤ 9223372036854775807 := HOK.out.2.2.2.2.1
        clear hst hx y2 y3 y4
        rcases kinds x.1 with hk0 | hk1 | hk2 | hk3
        case' inl =>
          have hand : Go.bits BinOp.and IntKind.i64 x.1 3 = 0 := by rw [and3]; exact hk0
          have HO := hideIt (opO_0 hk0)
          clear hk0
          go_wp2_with fail
          refine (wNum_any p _ (bs, false) x.2.1 wr HW.out (fun k hk => by omega) (by simp) (by simp; omega)).mono ?_
          rintro e w4 ⟨rfl, h1, h2⟩
          have HW4 : Hid (WSt w4 p (fun k => k ≠ p) (put (bs, false) (opO x))) := by rw [HO.out]; exact h1
          have HG4 := hideIt h2
          clear h1 h2
          go_wp2_with fail
          obtain ⟨z, hz⟩ : ∃ z : Int, z = (bs.length : Int) + 8 := ⟨_, rfl⟩
          rw [← hz]
          have HZZ : Hid (∀ c, opO x = some c → z = bs.length + c.length) := fun c hc => by
            rw [HO.out] at hc; cases hc; rw [hz, numB_length]; rfl
          clear hz hand
        case' inr.inl =>
          have hand : Go.bits BinOp.and IntKind.i64 x.1 3 = 1 := by rw [and3]; exact hk1
          have HO := hideIt (opO_1 hk1)
          clear hk1
          go_wp2_with fail
          refine (wText_any p _ _ (bs, false) _ (OpD.s x) wr HW.out HY2.out HOK.out.2.2.1 (fun k hk => by omega) (by simp) (by simp; omega)).mono ?_
          rintro e w4 ⟨rfl, h1, h2⟩
          have HW4 : Hid (WSt w4 p (fun k => k ≠ p) (put (bs, false) (opO x))) := by rw [HO.out]; exact h1
          have HG4 := hideIt h2
          have d2 : w4.cell? ⟨b, off + k * 5 + 2, none⟩ = some (.slice a2 (OpD.s x).length cap2) := h2.cell c2 (by simpa using hbp)
          clear h1 h2
          go_wp2_with fail
          obtain ⟨z, hz⟩ : ∃ z : Int, z = (bs.length : Int) + 4 + ((OpD.s x).length : Int) := ⟨_, rfl⟩
          rw [← hz]
          have HZZ : Hid (∀ c, opO x = some c → z = bs.length + c.length) := fun c hc => by
            rw [HO.out] at hc; obtain ⟨_, rfl⟩ := textO_some hc; rw [hz, textB_length]; omega
          clear hz hand d2
        case' inr.inr.inl =>
          have hand : Go.bits BinOp.and IntKind.i64 x.1 3 = 2 := by rw [and3]; exact hk2
          have HO := hideIt (opO_2 hk2)
          clear hk2
          go_wp2_with fail
          refine (wList_any p _ _ (bs, false) _ (OpD.l x) wr HW.out HY3.out HOK.out.2.2.2.1.1 HOK.out.2.2.2.1.2 (fun k hk => by omega) (by simp) (by simp; omega)).mono ?_
          rintro e w4 ⟨rfl, h1, h2⟩
          have HW4 : Hid (WSt w4 p (fun k => k ≠ p) (put (bs, false) (opO x))) := by rw [HO.out]; exact h1
          have HG4 := hideIt h2
          have d3 : w4.cell? ⟨b, off + k * 5 + 3, none⟩ = some (.slice a3 (OpD.l x).length cap3) := h2.cell c3 (by simpa using hbp)
          have HT4 : Hid (TextsIn w4 (· < w.heap.size) (.slice a3 (OpD.l x).length cap3) (OpD.l x)) := HY3.out.kept (Kept.of_grown h2 (fun h => by omega))
          clear h1 h2
          go_wp2
          go_loop [5, 8] (fun n i => ∃ (j : Nat) (z : Int), j ≤ (OpD.l x).length ∧ i = .int .i64 j ∧ n = .int .i64 z ∧ Hid ((OpD.l x).length ≤ 1024 → (∀ s ∈ OpD.l x, s.length ≤ 65536) → z = bs.length + 4 + textsSize ((OpD.l x).take j) ∧ z ≤ 200000000)) (fun _ i => (OpD.l x).length - (intOf i).toNat)
          case' atStart => exact ⟨0, _, Nat.zero_le _, rfl, rfl, fun _ _ => ⟨rfl, by omega⟩⟩
          case' round =>
            obtain ⟨j, z, hj, rfl, rfl, HJ⟩ := hrel
            by_cases hlj : j < (OpD.l x).length
          case' pos =>
            obtain ⟨y, hy⟩ : ∃ y, (OpD.l x)[j]? = some y := ⟨(OpD.l x)[j], by simp [hlj]⟩
            obtain ⟨b3, off3, u3, rfl, hb3, e3, ey⟩ := HT4.out.at hy
            obtain ⟨a5, cap5, rfl, _⟩ := ey.form
            have HLT := hideIt (textsSize_take (OpD.l x) j y hy)
            have HYM := hideIt (List.mem_of_getElem? hy)
            clear hy ey
            go_wp2
            refine ⟨⟨j + 1, _, by omega, by go_num, rfl, fun g1 g2 => ?_⟩, by simp [intOf]; omega⟩
            obtain ⟨q1, q2⟩ := HJ.out g1 g2
            have q3 := g2 y HYM.out
            have q4 := textsSize_bound ((OpD.l x).take (j + 1)) (fun s hs => g2 s (List.mem_of_mem_take hs))
            have q5 : ((OpD.l x).take (j + 1)).length ≤ 1024 := by simp; omega
            have q6 : ((OpD.l x).take (j + 1)).length * 65540 ≤ 1024 * 65540 := Nat.mul_le_mul_right _ q5
            rw [HLT.out] at q4 ⊢
            rw [wrap_text z y.length (by omega) q2 q3]
            omega
          case' neg =>
            have HJ2 : Hid ((OpD.l x).length ≤ 1024 → (∀ s ∈ OpD.l x, s.length ≤ 65536) → z = bs.length + 4 + textsSize (OpD.l x)) := fun h1 h2 => by
              have := (HJ.out h1 h2).1
              rwa [List.take_of_length_le (by omega)] at this
            go_wp2_with fail
            have HZZ : Hid (∀ c, opO x = some c → z = bs.length + c.length) := fun c hc => by
              rw [HO.out] at hc
              obtain ⟨g1, g2, rfl⟩ := listO_some hc
              rw [HJ2.out g1 g2, rowB, List.length_append, be_length, textsSize_flat]; omega
            clear hand d3
        case' inr.inr.inr =>
          have hand : Go.bits BinOp.and IntKind.i64 x.1 3 = 3 := by rw [and3]; exact hk3
          have HO := hideIt (opO_3 hk3)
          clear hk3
          go_wp2_with fail
          refine (wNums_any p _ _ (bs, false) _ (OpD.m x) wr HW.out HY4.out HOK.out.2.2.2.2.1 (fun k hk => by omega) (by simp) (by simp; omega)).mono ?_
          rintro e w4 ⟨rfl, h1, h2⟩
          have HW4 : Hid (WSt w4 p (fun k => k ≠ p) (put (bs, false) (opO x))) := by rw [HO.out]; exact h1
          have HG4 := hideIt h2
          have d4 : w4.cell? ⟨b, off + k * 5 + 4, none⟩ = some (.slice a4 (OpD.m x).length cap4) := h2.cell c4 (by simpa using hbp)
          clear h1 h2
          go_wp2_with fail
          obtain ⟨z, hz⟩ : ∃ z : Int, z = wrap64 ((bs.length : Int) + 4 + wrap64 (8 * ((OpD.m x).length : Int))) := ⟨_, rfl⟩
          rw [← hz]
          have HZZ : Hid (∀ c, opO x = some c → z = bs.length + c.length) := fun c hc => by
            rw [HO.out] at hc; obtain ⟨g1, rfl⟩ := numsO_some hc; rw [hz, wrap_nums _ _ hbl g1, rowB, List.length_append, be_length, nums_flat]
          clear hz hand d4
        all_goals
          have hs4 := HG4.out.size
          have HV4 := hideIt (HV.out.grown HG4.out hps)
          have HS4 := hideIt (HSr.out.kept (Kept.of_grown HG4.out (fun h => by omega)))
          cases hO : opO x with
          | none =>
            rw [hO] at HW4
            have HW5 : Hid (WBad w4 p (fun k => k ≠ p) bs) := HW4.out
            clear hO c0 c1 c2 c3 c4
            refine (wBytes_bad p _ bs w4 HW5.out).mono ?_
            rintro e w5 ⟨v5, rfl, ho5, hb5⟩
            have HV5 := hideIt (HV4.out.next hb5)
            obtain ⟨ty, y5, rfl⟩ := ho5.iface
            clear ho5 hb5
            go_wp2
            go_ret
            exact ⟨rfl, HV5.out.1⟩
          | some c =>
            rw [hO] at HW4
            have HW5 : Hid (WOk w4 p (fun k => k ≠ p) (bs ++ c)) := HW4.out
            have hz := HZZ.out c hO
            have hcl := opO_size hO (by have h1 := HWX.out; have h2 := HWT.out; omega)
            obtain ⟨bs2, hb2⟩ : ∃ b, b = bs ++ c := ⟨_, rfl⟩
            have hl2 : bs2.length = bs.length + c.length := by rw [hb2, List.length_append]
            have HCL : Hid (bs2.length ≤ opsW (l.take (k + 1)) ∧ bs2.length ≤ 400000) := by
              have h1 := HBL.out; have h2 := HTK.out; have h3 := HWX.out; have h4 := HWT.out
              have h5 : bs2.length ≤ opsW (l.take (k + 1)) ∧ bs2.length ≤ 400000 := by omega
              exact h5
            rw [← hb2] at HW5
            have hz2 : z = (bs2.length : Int) := by omega
            subst hz2
            have hle2 : bs.length ≤ bs2.length := by omega
            have hb400 := HCL.out.2
            have HCUT := hideIt hb2
            clear hO hz hcl hl2 hb2 HZZ c0 c1 c2 c3 c4
            refine (wBytes_ok p _ bs2 w4 HW5.out (by omega)).mono ?_
            rintro e w5 ⟨v5, rfl, ho5, hb5⟩
            have HV5 := hideIt (HV4.out.next hb5)
            have HS5 := hideIt (HS4.out.kept (Kept.of_all hb5))
            have HW6 : Hid (WSt w5 p (fun k => k ≠ p) (bs2, false)) := kept_below (st := (bs2, false)) HW5.out hb5
            have hy5 : BytesIn w5 (fun _ => True) v5 bs2 := RowIn.of_own ho5 (fun _ _ => trivial)
            obtain ⟨a5, cap5, rfl, hcap5⟩ := own_cap ho5
            have hst2 := BytesIn.str hy5
            have hst1 := BytesIn.str (BytesIn.cut (l1 := bs) (l2 := c) (by rw [← HCUT.out]; exact hy5))
            have hs5 := hb5.size
            have hle5 : bs.length ≤ cap5 := by omega
            clear ho5 hb5 hy5
            go_wp2
            exact ⟨⟨k + 1, bs2, by omega, by go_num, rfl, rfl, hb400, HCL.out.1, HW6.out, HV5.out, HS5.out, by omega⟩, by simp [intOf]; omega⟩
      · go_wp2
        go_ret
        exact ⟨rfl, HV.out.1⟩
  · go_wp2
    go_ret
    exact ⟨rfl, HV1.out.1⟩
end Go.Proofs.YtaaaibnalhmmgaaDoor
