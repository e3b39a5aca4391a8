/-
  What is proved here: the walk of cohortlaw10.TxnWrites, over this program.
-/
import Derived.Test.YtohlepbfjgehgaaGreatDoorTP
namespace Go.Proofs.YtohlepbfjgehgaaGreatDoor
open Go.RowKit Go.Extern.Stop Go.Stop Go.Extern

/-- the version of a key's last entry, 0 if there is none -/
def scanV (key : List UInt8) (l : List Ent) (m : Int) : Int := l.foldl (fun m e => if (e.1 == key) = true then e.2.2 else m) m
theorem scanV_take {l : List Ent} {k : Nat} {e : Ent} (key : List UInt8) (h : l[k]? = some e) : scanV key (l.take (k + 1)) 0 = if (e.1 == key) = true then e.2.2 else scanV key (l.take k) 0 := by
  obtain ⟨hlt, he⟩ := List.getElem?_eq_some_iff.1 h
  unfold scanV
  rw [List.take_succ_eq_append_getElem hlt, he, List.foldl_append]
  rfl
theorem scanV_no {key : List UInt8} {l : List Ent} {m : Int} (h : ∀ e ∈ l, (e.1 == key) = false) : scanV key l m = m := by
  induction l generalizing m with
  | nil => rfl
  | cons x r ih =>
    show scanV key r (if (x.1 == key) = true then x.2.2 else m) = m
    rw [h x (by simp)]
    exact ih (fun e he => h e (List.mem_cons_of_mem _ he))
theorem scanV_got {key : List UInt8} {l : List Ent} (h : l.Pairwise fun a b => kLt a.1 b.1) (m : Int) : scanV key l m = if (got l key).2 = true then (got l key).1.2.2 else m := by
  induction l generalizing m with
  | nil => rfl
  | cons x r ih =>
    obtain ⟨h1, h2⟩ := List.pairwise_cons.1 h
    show scanV key r (if (x.1 == key) = true then x.2.2 else m) = _
    unfold got
    rw [List.find?_cons]
    cases hq : x.1 == key with
    | true =>
      have e : x.1 = key := by simpa using hq
      simp only [if_true]
      exact scanV_no (fun y hy => by
        have hlt := h1 y hy
        rw [beq_eq_false_iff_ne]
        intro e2
        rw [e, e2] at hlt
        exact kLt_irrefl _ hlt)
    | false =>
      simp only [Bool.false_eq_true, if_false]
      exact ih h2 m
theorem scanV_all {key : List UInt8} {l : List Ent} (h : Rising l) : scanV key l 0 = (got l key).1.2.2 := by
  rw [scanV_got h.pair]
  cases hg : (got l key).2 with
  | true => rfl
  | false =>
    rw [(got_no hg).1]
    rfl
def anyK (xs : List Wr) (key : List UInt8) : Bool := xs.any fun x => x.1 == key
theorem anyK_take {xs : List Wr} {k : Nat} {x : Wr} (key : List UInt8) (h : xs[k]? = some x) : anyK (xs.take (k + 1)) key = (anyK (xs.take k) key || (x.1 == key)) := by
  obtain ⟨hlt, he⟩ := List.getElem?_eq_some_iff.1 h
  unfold anyK
  rw [List.take_succ_eq_append_getElem hlt, he, List.any_append]
  simp
theorem anyK_no {xs : List Wr} {key : List UInt8} (h : anyK xs key = false) : ∀ x ∈ xs, x.1 ≠ key := fun x hx e => by
  have := List.any_eq_false.1 h x hx
  simp [e] at this
theorem ver_wrap {v : Int} (h : v < 4611686018427387904) (h0 : 0 ≤ v) : IntKind.i64.wrap (v + 1) = v + 1 := by
  simp [IntKind.wrap, IntKind.bits, IntKind.signed]; omega

set_option maxRecDepth 100000 in
set_option maxHeartbeats 32000000 in
theorem twrites_true (c n : Int) (rv wv v : Value) (rs : List Rd) (ws : List Wr) (l : List Ent) (w : World) (hr : RdsIn w (· < w.heap.size) rv rs) (hw : WrsIn w (· < w.heap.size) wv ws) (hrl : rs.length ≤ 140737488355328) (hwl : ws.length ≤ 140737488355328)
    (hv : EntsIn w (· < w.heap.size) v l) (hn : l.length ≤ maxLen) (hg : ET w) (ht : PT w) :
    Calls Tryz.prog 4 #[.agg #[.int .i64 c, .int .i64 n, rv, wv], v] w fun e w' => e = .returned (.bool true) ∧ Below w.heap.size w w' := by
  have HV0 : Hid (Env w w) := ⟨Below.refl _ _, hg, ht⟩
  have HRV := hideIt hr
  have HWV := hideIt hw
  have HA := hideIt (And.intro hv hn)
  obtain ⟨ar, cr, rfl⟩ := hr.form
  obtain ⟨aw, cw, rfl⟩ := hw.form
  obtain ⟨a, cap, rfl⟩ := hv.form
  have HLN : Hid (rs.length ≤ 140737488355328 ∧ ws.length ≤ 140737488355328) := hideIt ⟨hrl, hwl⟩
  have hT := T4.new w 25 (.int .i64 c) (.int .i64 n) (.slice ar rs.length cr) (.slice aw ws.length cw)
  obtain ⟨W, hW⟩ : ∃ W, W = w.alloc (.cells #[.int .i64 c, .int .i64 n, .slice ar rs.length cr, .slice aw ws.length cw] 25) := ⟨_, rfl⟩
  have hwb : Below w.heap.size w W := by rw [hW]; exact (Below.refl _ _).alloc (Nat.le_refl _) _
  rw [← hW] at hT
  have HVW := hideIt (HV0.out.next hwb)
  have HTW := hideIt hT
  have HH := hideIt (head10_true W HVW.out.et HVW.out.pt)
  clear hr hw hv hn hrl hwl hg ht hT hwb HV0
  go_enter Tryz.func4, Tryz.ntmps4
  go_wp2_with fail
  rw [← hW]
  clear hW
  refine HH.out.mono ?_
  rintro e w1 ⟨rfl, hb1⟩
  have HV1 := hideIt (HVW.out.next hb1)
  have HT1 := hideIt (HTW.out.next hb1)
  have hb1w : w.heap.size < w1.heap.size := HT1.out.lt
  clear hb1 HH HVW HTW
  go_wp2_with fail
  refine (stof_any w1 _ _ l (RowIn.low HA.out.1 HV1.out.1) HA.out.2).mono ?_
  rintro e w2 (⟨hf, p, rfl, hns⟩ | ⟨_, rfl, hb2⟩)
  case inr =>
    have HV2 := hideIt (HV1.out.next hb2)
    clear hb2
    go_wp2
    go_ret
    exact ⟨rfl, HV2.out.1⟩
  have HS2 := hideIt (Ss.new HV1.out hns)
  have HT2 := hideIt (HT1.out.next hns.2)
  obtain ⟨O2, hO2⟩ : ∃ O2 : Nat → Prop, O2 = fun k => w1.heap.size ≤ k ∧ k < w2.heap.size := ⟨_, rfl⟩
  rw [← hO2] at HS2
  have HNO : Hid (∀ k, k ≤ w.heap.size → ¬ O2 k) := hideIt (by rw [hO2]; intro k hk h; omega)
  have HF := hideIt hf
  have x0 := HT2.out.1.1
  have x1 := HT2.out.1.2.1
  have x2 := HT2.out.1.2.2.1
  have x3 := HT2.out.1.2.2.2
  have hl4 : ¬ (400 : Int) < (l.length : Int) := by have := HF.out.1; omega
  clear hns hf hO2 HV1 HT1
  go_wp2_with fail
  refine (Great10_any w2 _ c n _ _ rs ws (RowIn.low HRV.out HS2.out.env.1) (RowIn.low HWV.out HS2.out.env.1) HLN.out.1 HLN.out.2).mono ?_
  rintro e w3 ⟨⟨g, rfl, hgl⟩, hb3⟩
  have HS3 := hideIt (HS2.out.next hb3)
  have HT3 := hideIt (HT2.out.next hb3)
  replace x0 := HT3.out.1.1
  replace x1 := HT3.out.1.2.1
  replace x2 := HT3.out.1.2.2.1
  replace x3 := HT3.out.1.2.2.2
  clear hb3 HS2 HT2 HLN
  cases g with
  | true =>
    go_wp2
    go_ret
    exact ⟨rfl, HS3.out.env.1⟩
  | false =>
  have hN := hgl rfl
  have HN : Hid (rs.length ≤ 3000 ∧ ws.length ≤ 3000) := hideIt (by omega)
  clear hgl hN
  go_wp2_with fail
  refine (txCheck_any w3 _ c n _ _ rs ws (RowIn.low HRV.out HS3.out.env.1) (RowIn.low HWV.out HS3.out.env.1) (by have := HN.out; omega) (by have := HN.out; omega)).mono ?_
  rintro e w4 ⟨er, rfl, hck, hb4⟩
  have HS4 := hideIt (HS3.out.next hb4)
  have HT4 := hideIt (HT3.out.next hb4)
  clear hb4 HS3 HT3 x0 x1 x2 x3
  rcases hck with ⟨hrb, rfl⟩ | ⟨_, ho⟩
  case inr =>
    obtain ⟨ty, y, rfl⟩ := ho.iface
    clear ho
    go_wp2
    go_ret
    exact ⟨rfl, HS4.out.env.1⟩
  have HOK := hideIt (rightB_ok hrb)
  have HAV := hideIt (RowIn.low HA.out.1 HS4.out.env.1)
  clear hrb
  go_wp2
  go_loop [7] (fun i => ∃ k : Nat, k ≤ l.length ∧ i = .int .i64 k ∧ Hid (∀ e ∈ l.take k, e.2.2 < 4611686018427387904)) (fun i => l.length - (intOf i).toNat)
  case atStart => exact ⟨0, Nat.zero_le _, rfl, hideIt (fun e he => by simp at he)⟩
  case round =>
    obtain ⟨k, hk, rfl, HLV⟩ := hrel
    have hl128 := HF.out.1
    by_cases hlt : k < l.length
    · obtain ⟨e, he⟩ : ∃ e, l[k]? = some e := ⟨l[k], by simp [hlt]⟩
      obtain ⟨b, off, rfl, _, d0, d1, d2⟩ := EntsIn.at HAV.out he
      have HE := hideIt he
      obtain ⟨ver, hver⟩ : ∃ z, z = e.2.2 := ⟨_, rfl⟩
      rw [← hver] at d2
      have HVER := hideIt hver
      clear he hver
      by_cases hbig : (4611686018427387904 : Int) ≤ ver
      · go_wp2
        go_ret
        exact ⟨rfl, HS4.out.env.1⟩
      · have HLV2 : Hid (∀ e ∈ l.take (k + 1), e.2.2 < 4611686018427387904) := hideIt (fun z hz => by
          rw [List.take_succ_eq_append_getElem hlt, (List.getElem?_eq_some_iff.1 HE.out).2] at hz
          rcases List.mem_append.1 hz with h | h
          · exact HLV.out z h
          · simp at h; subst h; have := HVER.out; omega)
        go_wp2
        exact ⟨⟨k + 1, by omega, by go_num, HLV2⟩, by simp [intOf]; omega⟩
    · have HLA : Hid (∀ e ∈ l, e.2.2 < 4611686018427387904) := hideIt (by
        have := HLV.out
        rw [show k = l.length by omega, List.take_length] at this
        exact this)
      have x0 := HT4.out.1.1
      have x1 := HT4.out.1.2.1
      have x2 := HT4.out.1.2.2.1
      have x3 := HT4.out.1.2.2.2
      clear HLV HAV
      go_wp2_with fail
      refine (txKeys_any w4 _ c n _ _ rs ws (RowIn.low HRV.out HS4.out.env.1) (RowIn.low HWV.out HS4.out.env.1) (by have := HN.out; omega) (by have := HN.out; omega)).mono ?_
      rintro e w5 ⟨z5, rfl, ho5, hb5⟩
      have hb4w : w.heap.size < w4.heap.size := HT4.out.lt
      have HK5 : Hid (SIn w5 (fun _ => True) z5 (txK rs ws)) := hideIt (SIn.of_own ho5 rfl)
      obtain ⟨a5, c5, rfl⟩ := own_form ho5
      have HS5 := hideIt (HS4.out.next hb5)
      have HT5 := hideIt (HT4.out.next hb5)
      have HTL : Hid ((txK rs ws).length ≤ 100000) := hideIt (by have h1 := txK_len rs ws; have := HN.out; omega)
      replace x0 := HT5.out.1.1
      replace x1 := HT5.out.1.2.1
      replace x2 := HT5.out.1.2.2.1
      replace x3 := HT5.out.1.2.2.2
      clear ho5 hb5 HS4 HT4
      go_wp2_with fail
      refine (txFits_any w5 _ _ p O2 l c n _ _ _ rs ws _ HS5.out.sto HF.out (RowIn.low HRV.out HS5.out.env.1) (RowIn.low HWV.out HS5.out.env.1) HK5.out (by have := HN.out; omega) (by have := HN.out; omega) HTL.out).mono ?_
      rintro e w6 ⟨rfl, hb6⟩
      have HS6 := hideIt (HS5.out.next hb6)
      have HT6 := hideIt (HT5.out.next hb6)
      have HK6 := hideIt (RowIn.kept HK5.out (Kept.of_all hb6))
      replace x0 := HT6.out.1.1
      replace x1 := HT6.out.1.2.1
      replace x2 := HT6.out.1.2.2.1
      replace x3 := HT6.out.1.2.2.2
      obtain ⟨ft, hft⟩ : ∃ ft, ft = fitsB l rs ws (txK rs ws) := ⟨_, rfl⟩
      have HFT := hideIt hft
      rw [← hft]
      clear hb6 HS5 HT5 HK5 hft
      cases ft with
      | false =>
        go_wp2
        go_ret
        exact ⟨rfl, HS6.out.env.1⟩
      | true =>
      have HROOM : Hid (((ws.filter fun x => !(got l x.1).2).length : Int) ≤ 128 - (l.length : Int)) := hideIt (by
        have h := HFT.out
        unfold fitsB at h
        rw [chosen_allW] at h
        have := (Bool.and_eq_true _ _ ▸ h.symm).2
        exact of_decide_eq_true this)
      go_wp2_with fail
      refine (txApply_any w6 _ _ p O2 l c n _ _ _ rs ws _ HS6.out.sto HF.out (RowIn.low HRV.out HS6.out.env.1) (RowIn.low HWV.out HS6.out.env.1) HK6.out (by have := HN.out; omega) HTL.out).mono ?_
      rintro e w7 ⟨er, l', O7, rfl, hs7, hm7, ha7⟩
      rw [chosen_allW] at ha7
      obtain ⟨rfl, hwr⟩ := app_ok HF.out HOK.out.2.2.unlike HOK.out.2.2.long HLA.out HROOM.out ha7
      have HG7 := hideIt (hwr.got HF.out HOK.out.2.2.unlike)
      have HS7 := hideIt (HS6.out.move hs7 hm7)
      have HT7 := hideIt (HT6.out.keep (hm7.turn.block _ HT6.out.lt (HNO.out _ (Nat.le_refl _))))
      have HL7 : Hid (l'.length ≤ 100000) := hideIt (by have := HG7.out.1.1; omega)
      have HWL : Hid (ws.length ≤ 8) := hideIt HOK.out.2.2.1
      clear hs7 hm7 ha7 hwr HS6 HT6 HK6 HFT x0 x1 x2 x3 HNO hlt hk
      go_wp2
      go_loopw [10] (fun i wr => ∃ k : Nat, k ≤ ws.length ∧ i = .int .i64 k ∧ Hid (Below w7.heap.size w7 wr)) (fun i _ => ws.length - (intOf i).toNat)
      case atStart => exact ⟨0, Nat.zero_le _, rfl, Below.refl _ _⟩
      case round =>
        obtain ⟨k, hk, rfl, HB⟩ := hrel
        have HSr := hideIt (HS7.out.next HB.out)
        have HTr := hideIt (HT7.out.next HB.out)
        have y3 := HTr.out.1.2.2.2
        have hw8 := HWL.out
        by_cases hlt : k < ws.length
        · obtain ⟨x, hx⟩ : ∃ x, ws[k]? = some x := ⟨ws[k], by simp [hlt]⟩
          have HX := hideIt hx
          go_wp2
          go_loopw [11, 12] (fun m i wz => ∃ j : Nat, j ≤ l.length ∧ i = .int .i64 j ∧ m = .int .i64 (scanV x.1 (l.take j) 0) ∧ Hid (Below wr.heap.size wr wz)) (fun _ i _ => l.length - (intOf i).toNat)
          case atStart => exact ⟨0, Nat.zero_le _, rfl, rfl, Below.refl _ _⟩
          case round =>
            obtain ⟨j, hj, rfl, rfl, HBz⟩ := hrel
            have HSz := hideIt (HSr.out.next HBz.out)
            have HTz := hideIt (HTr.out.next HBz.out)
            have z3 := HTz.out.1.2.2.2
            obtain ⟨bw, ofw, ew, _, p0, p1⟩ := WrsIn.at (RowIn.low HWV.out HSz.out.env.1) HX.out
            cases ew
            by_cases hjl : j < l.length
            · obtain ⟨e, he⟩ : ∃ e, l[j]? = some e := ⟨l[j], by simp [hjl]⟩
              obtain ⟨be, ofe, ee, _, d0, d1, d2⟩ := EntsIn.at (RowIn.low HA.out.1 HSz.out.env.1) he
              cases ee
              have HSC := hideIt (scanV_take x.1 he)
              clear he y3
              obtain ⟨m0, hm0⟩ : ∃ m0, m0 = scanV x.1 (l.take j) 0 := ⟨_, rfl⟩
              rw [← hm0] at HSC ⊢
              clear hm0
              cases hq : e.1 == x.1 with
              | true =>
                rw [hq, if_pos rfl] at HSC
                go_wp2_with fail
                refine wp_region_quiet_grow (by kernel_rfl) (by kernel_rfl) ?_
                intro ι _ f hf hn
                have s3 := fun i => ((hf i).cell (lt_of_cell z3)).trans z3
                have t0 := fun i => ((hf i).cell (lt_of_cell p0)).trans p0
                have u0 := fun i => ((hf i).cell (lt_of_cell d0)).trans d0
                have u2 := fun i => ((hf i).cell (lt_of_cell d2)).trans d2
                have HSF := hideIt hf
                clear hf hn z3 p0 p1 d0 d1 d2
                repeat (go_big_quiet_step (fail))
                refine wpQuiet_nil ?_
                rintro wq ⟨i, rfl⟩
                have v2 := u2 i
                have HBq := hideIt (HBz.out.trans ((HSF.out i).mono HBz.out.size))
                clear s3 t0 u0 u2
                generalize f i = wq at v2 HBq ⊢
                go_wp2
                exact ⟨⟨j + 1, by omega, by go_num, by rw [HSC.out], HBq⟩, by simp [intOf]; omega⟩
              | false =>
                rw [hq, if_neg (by decide)] at HSC
                go_wp2_with fail
                refine wp_region_quiet_grow (by kernel_rfl) (by kernel_rfl) ?_
                intro ι _ f hf hn
                have s3 := fun i => ((hf i).cell (lt_of_cell z3)).trans z3
                have t0 := fun i => ((hf i).cell (lt_of_cell p0)).trans p0
                have u0 := fun i => ((hf i).cell (lt_of_cell d0)).trans d0
                have HSF := hideIt hf
                clear hf hn z3 p0 p1 d0 d1 d2
                repeat (go_big_quiet_step (fail))
                refine wpQuiet_nil ?_
                rintro wq ⟨i, rfl⟩
                have HBq := hideIt (HBz.out.trans ((HSF.out i).mono HBz.out.size))
                clear s3 t0 u0
                generalize f i = wq at HBq ⊢
                go_wp2
                exact ⟨⟨j + 1, by omega, by go_num, by rw [HSC.out], HBq⟩, by simp [intOf]; omega⟩
            · have ej : j = l.length := by omega
              obtain ⟨vv, hvv⟩ : ∃ vv, vv = (got l x.1).1.2.2 := ⟨_, rfl⟩
              have hsc : scanV x.1 (l.take j) 0 = vv := by rw [ej, List.take_length, scanV_all HF.out.rising, hvv]
              rw [hsc]
              have hvr : vv < 4611686018427387904 ∧ 0 ≤ vv := by
                rw [hvv]
                rcases got_is l x.1 with ⟨_, _, i, hi⟩ | ⟨_, h0, _⟩
                · have hm := List.mem_of_getElem? hi
                  exact ⟨HLA.out _ hm, by have := (HF.out.mem hm).2.2; omega⟩
                · rw [h0]; decide
              have hwv := ver_wrap hvr.1 hvr.2
              have HGX : Hid (got l' x.1 = ((x.1, x.2, vv + 1), true)) := hideIt (by rw [hvv]; exact HG7.out.2.1 x (List.mem_of_getElem? HX.out))
              clear hsc hvv hvr y3 ej
              go_wp2_with fail
              refine (stget_any _ p O7 l' x.1 HSz.out.sto HG7.out.1.rising HL7.out).mono ?_
              rintro e w8 ⟨xe, is, rfl, hgi, hb8⟩
              have hgo := got_of HG7.out.1.rising hgi
              rw [HGX.out] at hgo
              simp only [Prod.mk.injEq] at hgo
              obtain ⟨rfl, rfl⟩ := hgo
              unfold entV
              obtain ⟨W8, hW8, hwb8, _, k0, k1, k2⟩ := room3 w8 42 (.string ⟨x.1.toArray⟩) (.string ⟨x.2.toArray⟩) (.int .i64 (vv + 1))
              have hbb := hb8.trans (hwb8.mono hb8.size)
              have HB8 := hideIt (HB.out.trans ((HBz.out.trans (hbb.mono HBz.out.size)).mono HB.out.size))
              have q3 := (hbb.cell (lt_of_cell z3)).trans z3
              have r0 := (hbb.cell (lt_of_cell p0)).trans p0
              have r1 := (hbb.cell (lt_of_cell p1)).trans p1
              have e1 : (x.2 == x.2) = true := by simp
              have e2 : (vv + 1 == vv + 1) = true := by simp
              clear hgi hb8 hwb8 hbb z3 p0 p1 HSz HTz
              go_wp2_with fail
              rw [← hW8]
              clear hW8
              refine wp_region_quiet_grow (by kernel_rfl) (by kernel_rfl) ?_
              intro ι _ f hf hn
              have s3 := fun i => ((hf i).cell (lt_of_cell q3)).trans q3
              have t0 := fun i => ((hf i).cell (lt_of_cell r0)).trans r0
              have t1 := fun i => ((hf i).cell (lt_of_cell r1)).trans r1
              have u0 := fun i => ((hf i).cell (lt_of_cell k0)).trans k0
              have u1 := fun i => ((hf i).cell (lt_of_cell k1)).trans k1
              have u2 := fun i => ((hf i).cell (lt_of_cell k2)).trans k2
              have HSF := hideIt hf
              clear hf hn q3 r0 r1 k0 k1 k2
              repeat (go_big_quiet_step (fail))
              refine wpQuiet_nil ?_
              rintro wq ⟨i, rfl⟩
              have HBq := hideIt (HB8.out.trans ((HSF.out i).mono HB8.out.size))
              clear s3 t0 t1 u0 u1 u2
              generalize f i = wq at HBq ⊢
              go_wp2
              exact ⟨⟨k + 1, by omega, by go_num, HBq⟩, by simp [intOf]; omega⟩
        · go_wp2
          go_loopw [15] (fun i wr => ∃ k : Nat, k ≤ l.length ∧ i = .int .i64 k ∧ Hid (Below w7.heap.size w7 wr)) (fun i _ => l.length - (intOf i).toNat)
          case atStart => exact ⟨0, Nat.zero_le _, rfl, HB⟩
          case round =>
            clear HSr HTr y3 hlt hk HB
            obtain ⟨k, hk, rfl, HB⟩ := hrel
            have HSr := hideIt (HS7.out.next HB.out)
            have HTr := hideIt (HT7.out.next HB.out)
            have hl128 := HF.out.1
            by_cases hlt : k < l.length
            · obtain ⟨e, he⟩ : ∃ e, l[k]? = some e := ⟨l[k], by simp [hlt]⟩
              have HE := hideIt he
              clear he
              go_wp2
              go_loopw [16, 17] (fun b i wz => ∃ (j : Nat) (bb : Bool), j ≤ ws.length ∧ i = .int .i64 j ∧ b = .bool bb ∧ Hid (bb = anyK (ws.take j) e.1) ∧ Hid (Below wr.heap.size wr wz)) (fun _ i _ => ws.length - (intOf i).toNat)
              case atStart => exact ⟨0, false, Nat.zero_le _, rfl, rfl, rfl, Below.refl _ _⟩
              case round =>
                obtain ⟨j, bb, hj, rfl, rfl, HBB, HBz⟩ := hrel
                have HSz := hideIt (HSr.out.next HBz.out)
                have HTz := hideIt (HTr.out.next HBz.out)
                have z3 := HTz.out.1.2.2.2
                obtain ⟨be, ofe, ee, _, d0, d1, d2⟩ := EntsIn.at (RowIn.low HA.out.1 HSz.out.env.1) HE.out
                cases ee
                by_cases hjl : j < ws.length
                · obtain ⟨x, hx⟩ : ∃ x, ws[j]? = some x := ⟨ws[j], by simp [hjl]⟩
                  obtain ⟨bw, ofw, ew, _, p0, p1⟩ := WrsIn.at (RowIn.low HWV.out HSz.out.env.1) hx
                  cases ew
                  have HAN := hideIt (anyK_take e.1 hx)
                  rw [← HBB.out] at HAN
                  clear hx
                  cases bb with
                  | true =>
                    rw [Bool.true_or] at HAN
                    go_wp2_with fail
                    refine wp_region_quiet_grow (by kernel_rfl) (by kernel_rfl) ?_
                    intro ι _ f hf hn
                    have HSF := hideIt hf
                    clear hf hn z3 p0 p1 d0 d1 d2
                    repeat (go_big_quiet_step (fail))
                    refine wpQuiet_nil ?_
                    rintro wq ⟨i, rfl⟩
                    have HBq := hideIt (HBz.out.trans ((HSF.out i).mono HBz.out.size))
                    generalize f i = wq at HBq ⊢
                    go_wp2
                    exact ⟨⟨j + 1, true, by omega, by go_num, rfl, hideIt HAN.out.symm, HBq⟩, by simp [intOf]; omega⟩
                  | false =>
                    rw [Bool.false_or] at HAN
                    obtain ⟨nq, hq⟩ : ∃ nq, (x.1 == e.1) = nq := ⟨_, rfl⟩
                    rw [hq] at HAN
                    go_wp2_with fail
                    refine wp_region_quiet_grow (by kernel_rfl) (by kernel_rfl) ?_
                    intro ι _ f hf hn
                    have s3 := fun i => ((hf i).cell (lt_of_cell z3)).trans z3
                    have t0 := fun i => ((hf i).cell (lt_of_cell p0)).trans p0
                    have u0 := fun i => ((hf i).cell (lt_of_cell d0)).trans d0
                    have HSF := hideIt hf
                    clear hf hn z3 p0 p1 d0 d1 d2
                    repeat (go_big_quiet_step (fail))
                    refine wpQuiet_nil ?_
                    rintro wq ⟨i, rfl⟩
                    have HBq := hideIt (HBz.out.trans ((HSF.out i).mono HBz.out.size))
                    clear s3 t0 u0
                    generalize f i = wq at HBq ⊢
                    go_wp2
                    exact ⟨⟨j + 1, nq, by omega, by go_num, by simp, hideIt HAN.out.symm, HBq⟩, by simp [intOf]; omega⟩
                · have HAN : Hid (bb = anyK ws e.1) := hideIt (by
                    have := HBB.out
                    rw [show j = ws.length by omega, List.take_length] at this
                    exact this)
                  go_wp2_with fail
                  refine (stget_any _ p O7 l' e.1 HSz.out.sto HG7.out.1.rising HL7.out).mono ?_
                  rintro en w8 ⟨xe, is, rfl, hgi, hb8⟩
                  have HGO := hideIt (got_of HG7.out.1.rising hgi)
                  unfold entV
                  obtain ⟨W8, hW8, hwb8, _, k0, k1, k2⟩ := room3 w8 42 (.string ⟨xe.1.toArray⟩) (.string ⟨xe.2.1.toArray⟩) (.int .i64 xe.2.2)
                  have hbb := hb8.trans (hwb8.mono hb8.size)
                  have HB8 := hideIt (HB.out.trans ((HBz.out.trans (hbb.mono HBz.out.size)).mono HB.out.size))
                  have r0 := (hbb.cell (lt_of_cell d0)).trans d0
                  have r1 := (hbb.cell (lt_of_cell d1)).trans d1
                  have r2 := (hbb.cell (lt_of_cell d2)).trans d2
                  clear hgi hb8 hwb8 hbb z3 d0 d1 d2 HSz HTz HBB
                  cases bb with
                  | true =>
                    go_wp2_with fail
                    rw [← hW8]
                    clear hW8
                    refine wp_region_quiet_grow (by kernel_rfl) (by kernel_rfl) ?_
                    intro ι _ f hf hn
                    have HSF := hideIt hf
                    clear hf hn r0 r1 r2 k0 k1 k2
                    repeat (go_big_quiet_step (fail))
                    refine wpQuiet_nil ?_
                    rintro wq ⟨i, rfl⟩
                    have HBq := hideIt (HB8.out.trans ((HSF.out i).mono HB8.out.size))
                    generalize f i = wq at HBq ⊢
                    go_wp2
                    exact ⟨⟨k + 1, by omega, by go_num, HBq⟩, by simp [intOf]; omega⟩
                  | false =>
                    have hsame : xe = e ∧ is = true := by
                      have h1 := HG7.out.2.2.1 e.1 (anyK_no HAN.out.symm)
                      rw [HGO.out, (got_mem HF.out.rising).1 (List.mem_of_getElem? HE.out)] at h1
                      simpa using h1
                    obtain ⟨rfl, rfl⟩ := hsame
                    have hne := fun w => neq_ent xe xe w
                    rw [decide_eq_true (rfl : xe = xe)] at hne
                    go_wp2_with fail
                    rw [← hW8]
                    clear hW8
                    refine wp_region_quiet_grow (by kernel_rfl) (by kernel_rfl) ?_
                    intro ι _ f hf hn
                    have t0 := fun i => ((hf i).cell (lt_of_cell r0)).trans r0
                    have t1 := fun i => ((hf i).cell (lt_of_cell r1)).trans r1
                    have t2 := fun i => ((hf i).cell (lt_of_cell r2)).trans r2
                    have u0 := fun i => ((hf i).cell (lt_of_cell k0)).trans k0
                    have u1 := fun i => ((hf i).cell (lt_of_cell k1)).trans k1
                    have u2 := fun i => ((hf i).cell (lt_of_cell k2)).trans k2
                    have HSF := hideIt hf
                    clear hf hn r0 r1 r2 k0 k1 k2
                    repeat (go_big_quiet_step (fail))
                    refine wpQuiet_nil ?_
                    rintro wq ⟨i, rfl⟩
                    have HBq := hideIt (HB8.out.trans ((HSF.out i).mono HB8.out.size))
                    clear t0 t1 t2 u0 u1 u2
                    generalize f i = wq at HBq ⊢
                    go_wp2
                    exact ⟨⟨k + 1, by omega, by go_num, HBq⟩, by simp [intOf]; omega⟩
            · go_wp2
              go_ret
              exact ⟨rfl, HSr.out.env.1⟩
end Go.Proofs.YtohlepbfjgehgaaGreatDoor
