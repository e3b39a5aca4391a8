/-
  What is proved here: why a transaction is none; what it writes is written; over this program.
-/
import Derived.Test.YtohlepbfjgehgaaGreatDoorTG
import Derived.Test.YtohlepbfjgehgaaGreatDoorJ3
namespace Go.Proofs.YtohlepbfjgehgaaGreatDoor
open Go.RowKit Go.Extern.Stop Go.Stop Go.Extern

def sTxn : ByteArray := ⟨#[116, 120, 110]⟩
set_option maxHeartbeats 1000000 in
theorem txthrough_nil (w : World) : Calls Tryz.prog 36 #[.nilIface] w fun e w' => e = .returned .nilIface ∧ w' = w := by
  go_enter Tryz.func36, Tryz.ntmps36
  go_wp2_with fail
  refine (Wrap_nil _ _ w).mono ?_
  rintro e w1 ⟨rfl, rfl⟩
  go_wp2
  go_ret
  exact ⟨rfl, rfl⟩
set_option maxHeartbeats 1000000 in
theorem txthrough_some (ty : TypeId) (y : Value) (w : World) : Calls Tryz.prog 36 #[.iface ty y] w fun e w' => ∃ t2 y2, e = .returned (.iface t2 y2) ∧ Below w.heap.size w w' := by
  go_enter Tryz.func36, Tryz.ntmps36
  go_wp2_with fail
  refine (Wrap_some ty y _ _ w).mono ?_
  rintro e w1 ⟨rfl, hw⟩
  have HB : Hid (Below w.heap.size w w1) := hideIt (by rw [hw]; exact (Below.refl _ _).alloc (Nat.le_refl _) _)
  clear hw
  go_wp2
  go_ret
  exact ⟨_, _, rfl, HB.out⟩
set_option maxHeartbeats 1000000 in
theorem txthrough_one (n : Int) (w : World) : Calls Tryz.prog 36 #[.iface 70 (.int .i64 n)] w fun e w' => ∃ er, e = .returned er ∧ One w' (w.heap.size ≤ ·) er n sTxn 0 ∧ Below w.heap.size w w' := by
  go_enter Tryz.func36, Tryz.ntmps36
  go_wp2_with fail
  refine (wrap_one w n _ _).mono ?_
  rintro e w1 ⟨er, rfl, ho, hb⟩
  have HO := hideIt ho
  have HB := hideIt hb
  obtain ⟨ty, y, rfl⟩ := ho.iface
  clear ho hb
  go_wp2
  go_ret
  exact ⟨_, rfl, HO.out, HB.out⟩

def numsB (c n : Int) (N : Nat) : Bool := decide (0 ≤ c) && (decide (c < 16) && (decide (1 ≤ n) && (decide (n ≤ 1099511627776) && decide (0 < (N : Int)))))
/-- is it right? -/
def rightB (c n : Int) (rs : List Rd) (ws : List Wr) : Bool := numsB c n (rs.length + ws.length) && (allR rs && allW ws)
theorem rightB_no {c n : Int} {rs : List Rd} {ws : List Wr} (h : ¬ (0 ≤ c ∧ c < 16 ∧ 1 ≤ n ∧ n ≤ 1099511627776 ∧ 0 < (rs.length : Int) + (ws.length : Int))) : rightB c n rs ws = false := by
  unfold rightB
  cases hn : numsB c n (rs.length + ws.length) with
  | false => rfl
  | true =>
    exfalso
    unfold numsB at hn
    simp only [Bool.and_eq_true, decide_eq_true_eq] at hn
    exact h ⟨hn.1, hn.2.1, hn.2.2.1, hn.2.2.2.1, by have := hn.2.2.2.2; omega⟩
theorem rightB_nums {c n : Int} {rs : List Rd} {ws : List Wr} (h : 0 ≤ c ∧ c < 16 ∧ 1 ≤ n ∧ n ≤ 1099511627776 ∧ 0 < (rs.length : Int) + (ws.length : Int)) : rightB c n rs ws = (allR rs && allW ws) := by
  unfold rightB numsB
  rw [decide_eq_true h.1, decide_eq_true h.2.1, decide_eq_true h.2.2.1, decide_eq_true h.2.2.2.1, decide_eq_true (show (0 : Int) < ((rs.length + ws.length : Nat) : Int) by have := h.2.2.2.2; omega)]
  rfl
set_option maxRecDepth 100000 in
set_option maxHeartbeats 16000000 in
theorem txright_any (w : World) (A : Nat → Prop) (c n : Int) (rv wv : Value) (rs : List Rd) (ws : List Wr) (hr : RdsIn w A rv rs) (hw : WrsIn w A wv ws) (hrl : rs.length ≤ 1000000000) (hwl : ws.length ≤ 1000000000) :
    Calls Tryz.prog 37 #[.agg #[.int .i64 c, .int .i64 n, rv, wv]] w fun e w' => e = .returned (.bool (rightB c n rs ws)) ∧ Below w.heap.size w w' := by
  have HRV := hideIt (RowIn.lt hr)
  have HWV := hideIt (RowIn.lt hw)
  obtain ⟨ar, cr, rfl⟩ := hr.form
  obtain ⟨aw, cw, rfl⟩ := hw.form
  obtain ⟨W, hW, hwb, hws, c0, c1, c2, c3⟩ := room4t w 25 (.int .i64 c) (.int .i64 n) (.slice ar rs.length cr) (.slice aw ws.length cw)
  have HWB := hideIt hwb
  clear hr hw hwb
  have hsum : IntKind.i64.wrap ((rs.length : Int) + (ws.length : Int)) = (rs.length : Int) + (ws.length : Int) := by simp [IntKind.wrap, IntKind.bits, IntKind.signed]; omega
  by_cases h1 : 0 ≤ c
  case neg =>
    have HE : Hid (rightB c n rs ws = false) := hideIt (rightB_no (fun h => h1 h.1))
    clear hrl hwl
    subst hW
    go_enter Tryz.func37, Tryz.ntmps37
    go_wp2
    go_ret
    exact ⟨by rw [HE.out]; rfl, HWB.out⟩
  by_cases h2 : c < 16
  case neg =>
    have HE : Hid (rightB c n rs ws = false) := hideIt (rightB_no (fun h => h2 h.2.1))
    clear hrl hwl
    subst hW
    go_enter Tryz.func37, Tryz.ntmps37
    go_wp2
    go_ret
    exact ⟨by rw [HE.out]; rfl, HWB.out⟩
  by_cases h3 : 1 ≤ n
  case neg =>
    have HE : Hid (rightB c n rs ws = false) := hideIt (rightB_no (fun h => h3 h.2.2.1))
    clear hrl hwl
    subst hW
    go_enter Tryz.func37, Tryz.ntmps37
    go_wp2
    go_ret
    exact ⟨by rw [HE.out]; rfl, HWB.out⟩
  by_cases h4 : n ≤ 1099511627776
  case neg =>
    have HE : Hid (rightB c n rs ws = false) := hideIt (rightB_no (fun h => h4 h.2.2.2.1))
    clear hrl hwl
    subst hW
    go_enter Tryz.func37, Tryz.ntmps37
    go_wp2
    go_ret
    exact ⟨by rw [HE.out]; rfl, HWB.out⟩
  by_cases h5 : 0 < (rs.length : Int) + (ws.length : Int)
  case neg =>
    have HE : Hid (rightB c n rs ws = false) := hideIt (rightB_no (fun h => h5 h.2.2.2.2))
    clear hrl hwl
    subst hW
    go_enter Tryz.func37, Tryz.ntmps37
    go_wp2
    go_ret
    exact ⟨by rw [HE.out]; rfl, HWB.out⟩
  have HE := hideIt (rightB_nums (rs := rs) (ws := ws) ⟨h1, h2, h3, h4, h5⟩)
  have HLN : Hid (rs.length ≤ maxLen ∧ ws.length ≤ maxLen) := hideIt (by unfold maxLen; omega)
  clear hrl hwl
  go_enter Tryz.func37, Tryz.ntmps37
  go_wp2_with fail
  rw [← hW]
  clear hW
  refine (txarR_any W _ _ rs (RowIn.low HRV.out HWB.out) HLN.out.1).mono ?_
  rintro e w1 ⟨rfl, hb1⟩
  have HB1 := hideIt (HWB.out.trans (hb1.mono HWB.out.size))
  have d3 := (hb1.cell (lt_of_cell c3)).trans c3
  obtain ⟨br, hbr⟩ : ∃ br, br = allR rs := ⟨_, rfl⟩
  rw [← hbr] at HE ⊢
  clear hb1 c0 c1 c2 c3 hbr
  cases br with
  | false =>
    go_wp2
    go_ret
    exact ⟨by rw [HE.out]; rfl, HB1.out⟩
  | true =>
    go_wp2_with fail
    refine (txarW_any w1 _ _ ws (RowIn.low HWV.out HB1.out) HLN.out.2).mono ?_
    rintro e w2 ⟨rfl, hb2⟩
    have HB2 := hideIt (HB1.out.trans (hb2.mono HB1.out.size))
    rw [Bool.true_and] at HE
    obtain ⟨bw, hbw⟩ : ∃ bw, bw = allW ws := ⟨_, rfl⟩
    rw [← hbw] at HE ⊢
    clear hb2 hbw
    go_wp2
    go_ret
    exact ⟨by rw [HE.out]; rfl, HB2.out⟩

/-- what Check answers -/
def ChkIs (w w' : World) (b : Bool) (er : Value) : Prop := (b = true ∧ er = .nilIface) ∨ (b = false ∧ One w' (w.heap.size ≤ ·) er 101 sTxn 0)
set_option maxRecDepth 100000 in
set_option maxHeartbeats 4000000 in
theorem txCheck_any (w : World) (A : Nat → Prop) (c n : Int) (rv wv : Value) (rs : List Rd) (ws : List Wr) (hr : RdsIn w A rv rs) (hw : WrsIn w A wv ws) (hrl : rs.length ≤ 1000000000) (hwl : ws.length ≤ 1000000000) :
    Calls Tryz.prog 11 #[.agg #[.int .i64 c, .int .i64 n, rv, wv]] w fun e w' => ∃ er, e = .returned er ∧ ChkIs w w' (rightB c n rs ws) er ∧ Below w.heap.size w w' := by
  have HRV := hideIt (RowIn.lt hr)
  have HWV := hideIt (RowIn.lt hw)
  obtain ⟨ar, cr, rfl⟩ := hr.form
  obtain ⟨aw, cw, rfl⟩ := hw.form
  obtain ⟨W, hW, hwb, hws, c0, c1, c2, c3⟩ := room4t w 25 (.int .i64 c) (.int .i64 n) (.slice ar rs.length cr) (.slice aw ws.length cw)
  have HWB := hideIt hwb
  have HLN : Hid (rs.length ≤ 1000000000 ∧ ws.length ≤ 1000000000) := hideIt ⟨hrl, hwl⟩
  clear hr hw hwb hrl hwl
  go_enter Tryz.func11, Tryz.ntmps11
  go_wp2_with fail
  rw [← hW]
  clear hW
  refine (txright_any W _ c n _ _ rs ws (RowIn.low HRV.out HWB.out) (RowIn.low HWV.out HWB.out) HLN.out.1 HLN.out.2).mono ?_
  rintro e w1 ⟨rfl, hb1⟩
  have HB1 := hideIt (HWB.out.trans (hb1.mono HWB.out.size))
  obtain ⟨b, hb⟩ : ∃ b, b = rightB c n rs ws := ⟨_, rfl⟩
  rw [← hb]
  have HBB := hideIt hb
  clear hb1 hb c0 c1 c2 c3
  cases b with
  | true =>
    go_wp2
    go_ret
    exact ⟨_, rfl, Or.inl ⟨HBB.out.symm, rfl⟩, HB1.out⟩
  | false =>
    go_wp2_with fail
    refine (Of_err 101 (by decide) w1).mono ?_
    rintro e w2 ⟨rfl, rfl⟩
    go_wp2_with fail
    refine (txthrough_one 101 w2).mono ?_
    rintro e w3 ⟨er, rfl, ho, hb3⟩
    have HO := hideIt (ho.mono (A' := (w.heap.size ≤ ·)) (fun k h _ => Nat.le_trans HB1.out.size h))
    have HB3 := hideIt (HB1.out.trans (hb3.mono HB1.out.size))
    obtain ⟨ty, y, rfl⟩ := ho.iface
    clear ho hb3
    go_wp2
    go_ret
    exact ⟨_, rfl, Or.inr ⟨HBB.out.symm, HO.out⟩, HB3.out⟩

/-- writes apart from the store -/
theorem wrs_move {w w' : World} {O O' : Nat → Prop} {v : Value} {xs : List Wr} (h : WrsIn w (fun k => k < w.heap.size ∧ ¬ O k) v xs) (hg : Move w O w' O') : WrsIn w' (fun k => k < w'.heap.size ∧ ¬ O' k) v xs :=
  RowIn.over h (hg.turn.kept (fun _ hk _ => hk.2)) (fun _ hk hl => ⟨Nat.lt_of_lt_of_le hl hg.turn.size, hg.not hl hk.2⟩)
set_option maxRecDepth 100000 in
set_option maxHeartbeats 16000000 in
theorem txApply_any (w : World) (A A2 : Nat → Prop) (p : Nat) (O : Nat → Prop) (l : List Ent) (c n : Int) (rv wv kv : Value) (rs : List Rd) (ws : List Wr) (T : List (List UInt8)) (hs : Sto w p O l) (hf : Fit l)
    (hr : RdsIn w A rv rs) (hw : WrsIn w A wv ws) (hk : SIn w A2 kv T) (hwl : ws.length ≤ 10000) (hT : T.length ≤ 100000) :
    Calls Tryz.prog 17 #[.agg #[.int .i64 c, .int .i64 n, rv, wv], .pointer (some ⟨p, 0, none⟩), kv] w fun e w' => ∃ (er : Value) (l' : List Ent) (O' : Nat → Prop), e = .returned er ∧ Sto w' p O' l' ∧ Move w O w' O' ∧ AppIs l (wrChosen ws T) er l' := by
  have HWV := hideIt (RowIn.lt hw)
  have HKV := hideIt (RowIn.lt hk)
  have HF := hideIt hf
  obtain ⟨ar, cr, rfl⟩ := hr.form
  obtain ⟨aw, cw, rfl⟩ := hw.form
  obtain ⟨ak, ck, rfl⟩ := hk.form
  obtain ⟨W, hW, hwb, hws, c0, c1, c2, c3⟩ := room4t w 25 (.int .i64 c) (.int .i64 n) (.slice ar rs.length cr) (.slice aw ws.length cw)
  have HO : Hid (∀ k, O k → k < w.heap.size) := hideIt (by obtain ⟨_, _, _, _, h, _⟩ := hs; exact h)
  have HS := hideIt (hs.next hwb)
  have HWB := hideIt hwb
  have HLN : Hid (ws.length ≤ 10000 ∧ T.length ≤ 100000) := hideIt ⟨hwl, hT⟩
  clear hs hf hr hw hk hwb c0 c1 c2 hwl hT
  go_enter Tryz.func17, Tryz.ntmps17
  go_wp2_with fail
  rw [← hW]
  clear hW
  refine (txchW_any W _ _ _ _ ws T (RowIn.low HWV.out HWB.out) (RowIn.low HKV.out HWB.out) (by have := HLN.out; omega) (by have := HLN.out; omega)).mono ?_
  rintro e w1 ⟨z1, rfl, ho1, hb1⟩
  obtain ⟨a1, cc1, rfl⟩ := own_form ho1
  have HZ1 : Hid (WrsIn w1 (fun k => k < w1.heap.size ∧ ¬ O k) (.slice a1 (wrChosen ws T).length cc1) (wrChosen ws T)) := hideIt (RowIn.mono (A := (W.heap.size ≤ ·)) (RowIn.of_own ho1 (fun _ h => h)) (fun k h hl => ⟨hl, fun o => by have := HO.out k o; have := HWB.out.size; omega⟩))
  have HS1 := hideIt (HS.out.next hb1)
  have HB1 := hideIt (HWB.out.trans (hb1.mono HWB.out.size))
  have hcl : (wrChosen ws T).length ≤ 10000 := Nat.le_trans (List.length_filter_le _ _) (by have := HLN.out; omega)
  obtain ⟨CW, hCW⟩ : ∃ CW, CW = wrChosen ws T := ⟨_, rfl⟩
  rw [← hCW] at HZ1 hcl ⊢
  have HCW := hideIt hCW
  clear ho1 hb1 c3 hCW HS
  go_wp2
  go_loopw [15] (fun i wr => ∃ (k : Nat) (l' : List Ent) (O' : Nat → Prop), k ≤ CW.length ∧ i = .int .i64 k ∧ Hid (Sto wr p O' l') ∧ Hid (Move w1 O wr O') ∧ Hid (Wrote l (CW.take k) l')) (fun i _ => CW.length - (intOf i).toNat)
  case atStart => exact ⟨0, l, O, Nat.zero_le _, rfl, HS1.out, Move.of_below (Below.refl _ _), rfl⟩
  case round =>
    obtain ⟨k, l', O', hk, rfl, HSr, HM, HW⟩ := hrel
    by_cases hlt : k < CW.length
    · obtain ⟨x, hx⟩ : ∃ x, CW[k]? = some x := ⟨CW[k], by simp [hlt]⟩
      have HVr := hideIt (wrs_move HZ1.out HM.out)
      obtain ⟨b, off, rfl, _, c0, c1⟩ := WrsIn.at HVr.out hx
      have HX := hideIt hx
      have HF2 := hideIt (HW.out.fit HF.out)
      obtain ⟨W2, hW2, hwb2, hws2, e0, e1⟩ := room2 wr 48 (.string ⟨x.1.toArray⟩) (.string ⟨x.2.toArray⟩)
      have HS2 := hideIt (HSr.out.next hwb2)
      have HM2 := hideIt (HM.out.trans (Move.of_below hwb2))
      have HTK : Hid (CW.take (k + 1) = CW.take k ++ [x]) := hideIt (by rw [List.take_succ_eq_append_getElem hlt, (List.getElem?_eq_some_iff.1 hx).2])
      clear hx HVr hwb2 HSr HM
      go_wp2_with fail
      rw [← hW2]
      clear hW2
      refine (stput_any W2 p O' l' x.1 x.2 HS2.out HF2.out).mono ?_
      rintro e w3 ⟨er, l3, O3, rfl, hs3, hm3, hp3⟩
      have HS3 := hideIt hs3
      have HM3 := hideIt (HM2.out.trans hm3)
      have her := put_nil hp3
      have HP3 := hideIt hp3
      clear hs3 hm3 hp3 c0 c1 e0 e1 HS2 HM2
      rcases her with ⟨ty, y, rfl, rfl⟩ | rfl
      · have HPF := hideIt (put_fails HF2.out.rising HP3.out).2
        clear HP3
        go_wp2_with fail
        refine (txthrough_some ty y w3).mono ?_
        rintro e w4 ⟨t2, y2, rfl, hb4⟩
        have HS4 := hideIt (HS3.out.next hb4)
        have HM4 := hideIt ((Move.of_below HB1.out).trans (HM3.out.trans (Move.of_below hb4)))
        clear hb4
        go_wp2
        go_ret
        exact ⟨_, _, _, rfl, HS4.out, HM4.out, by rw [← HCW.out]; exact Or.inr ⟨⟨_, _, rfl⟩, k, x, HX.out, HW.out, HPF.out⟩⟩
      · have HW3 := hideIt (HW.out.snoc (putOk_of HP3.out))
        rw [← HTK.out] at HW3
        clear HP3
        go_wp2
        go_roundw
        case rel => exact ⟨k + 1, l3, O3, by omega, by go_num, HS3.out, HM3.out, HW3.out⟩
        case measure => simp [intOf]; omega
    · have ek : k = CW.length := by omega
      have HWE : Hid (Wrote l CW l') := hideIt (by have := HW.out; rw [ek, List.take_length] at this; exact this)
      have HME := hideIt ((Move.of_below (O := O) HB1.out).trans HM.out)
      clear HW ek
      go_wp2
      go_ret
      exact ⟨_, _, _, rfl, HSr.out, HME.out, by rw [← HCW.out]; exact Or.inl ⟨rfl, HWE.out⟩⟩
end Go.Proofs.YtohlepbfjgehgaaGreatDoor
