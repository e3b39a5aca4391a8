/-
  What is proved here: what a right transaction is, in plain words; Put of a transaction; over this program.
-/
import Derived.Test.YtohlepbfjgehgaaGreatDoorTI
namespace Go.Proofs.YtohlepbfjgehgaaGreatDoor
open Go.RowKit Go.Extern.Stop Go.Stop Go.Extern

def rdsOk (l : List Rd) : Prop := l.length ≤ 8 ∧ (∀ x ∈ l, x.1.length ≤ 16 ∧ okR x = true) ∧ l.Pairwise fun a b => kLt a.1 b.1
theorem allR_ok {l : List Rd} (h : allR l = true) : rdsOk l := by
  unfold allR at h
  rw [Bool.and_eq_true, List.all_eq_true] at h
  obtain ⟨h1, h2⟩ := h
  have h8 : l.length ≤ 8 := by
    simp only [Bool.not_eq_true', decide_eq_false_iff_not] at h1
    omega
  have hat : ∀ (k : Nat) x, l[k]? = some x → x.1.length ≤ 16 ∧ okR x = true ∧ ∀ j y, k = j + 1 → l[j]? = some y → kLt y.1 x.1 := fun k x hx => by
    have h := h2 k (List.mem_range.2 (List.getElem?_eq_some_iff.1 hx).1)
    unfold atR at h
    rw [hx] at h
    simp only [Bool.and_eq_true, Bool.not_eq_true', decide_eq_false_iff_not] at h
    refine ⟨by omega, h.2.2, fun j y hk hy => ?_⟩
    subst hk
    have h3 := h.2.1
    simp only [hy] at h3
    exact h3
  have hstep : ∀ (d i : Nat) a b, l[i]? = some a → l[i + 1 + d]? = some b → kLt a.1 b.1 := fun d => by
    induction d with
    | zero => exact fun i a b ha hb => (hat (i + 1) b hb).2.2 i a rfl ha
    | succ d ih =>
      intro i a b ha hb
      have hlt := (List.getElem?_eq_some_iff.1 hb).1
      have hm : l[i + 1 + d]? = some (l[i + 1 + d]'(by omega)) := by simp [show i + 1 + d < l.length by omega]
      exact kLt_trans (ih i a _ ha hm) ((hat (i + 1 + d + 1) b hb).2.2 (i + 1 + d) _ rfl hm)
  refine ⟨h8, fun x hx => ?_, List.pairwise_iff_getElem.2 fun i j hi hj hij => ?_⟩
  · obtain ⟨k, hk⟩ := List.getElem?_of_mem hx
    exact ⟨(hat k x hk).1, (hat k x hk).2.1⟩
  · refine hstep (j - i - 1) i _ _ (by simp [hi]) ?_
    rw [show i + 1 + (j - i - 1) = j by omega]
    simp [hj]
theorem rdsOk.short {l : List Rd} (h : rdsOk l) : ∀ x ∈ l, rdShort x := fun x hx => by
  have := h.2.1 x hx
  unfold rdShort
  exact this.1

def wrsOk (l : List Wr) : Prop := l.length ≤ 8 ∧ (∀ x ∈ l, x.1.length ≤ 16 ∧ okW x = true) ∧ l.Pairwise fun a b => kLt a.1 b.1
theorem allW_ok {l : List Wr} (h : allW l = true) : wrsOk l := by
  unfold allW at h
  rw [Bool.and_eq_true, List.all_eq_true] at h
  obtain ⟨h1, h2⟩ := h
  have h8 : l.length ≤ 8 := by
    simp only [Bool.not_eq_true', decide_eq_false_iff_not] at h1
    omega
  have hat : ∀ (k : Nat) x, l[k]? = some x → x.1.length ≤ 16 ∧ okW x = true ∧ ∀ j y, k = j + 1 → l[j]? = some y → kLt y.1 x.1 := fun k x hx => by
    have h := h2 k (List.mem_range.2 (List.getElem?_eq_some_iff.1 hx).1)
    unfold atW at h
    rw [hx] at h
    simp only [Bool.and_eq_true, Bool.not_eq_true', decide_eq_false_iff_not] at h
    refine ⟨by omega, h.2.2, fun j y hk hy => ?_⟩
    subst hk
    have h3 := h.2.1
    simp only [hy] at h3
    exact h3
  have hstep : ∀ (d i : Nat) a b, l[i]? = some a → l[i + 1 + d]? = some b → kLt a.1 b.1 := fun d => by
    induction d with
    | zero => exact fun i a b ha hb => (hat (i + 1) b hb).2.2 i a rfl ha
    | succ d ih =>
      intro i a b ha hb
      have hlt := (List.getElem?_eq_some_iff.1 hb).1
      have hm : l[i + 1 + d]? = some (l[i + 1 + d]'(by omega)) := by simp [show i + 1 + d < l.length by omega]
      exact kLt_trans (ih i a _ ha hm) ((hat (i + 1 + d + 1) b hb).2.2 (i + 1 + d) _ rfl hm)
  refine ⟨h8, fun x hx => ?_, List.pairwise_iff_getElem.2 fun i j hi hj hij => ?_⟩
  · obtain ⟨k, hk⟩ := List.getElem?_of_mem hx
    exact ⟨(hat k x hk).1, (hat k x hk).2.1⟩
  · refine hstep (j - i - 1) i _ _ (by simp [hi]) ?_
    rw [show i + 1 + (j - i - 1) = j by omega]
    simp [hj]
theorem wrsOk.short {l : List Wr} (h : wrsOk l) : ∀ x ∈ l, wrShort x := fun x hx => by
  have := h.2.1 x hx
  unfold wrShort
  refine ⟨this.1, ?_⟩
  have h2 := this.2
  unfold okW at h2
  have := of_decide_eq_true h2
  omega

theorem rightB_ok {c n : Int} {rs : List Rd} {ws : List Wr} (h : rightB c n rs ws = true) : (0 ≤ c ∧ c < 16 ∧ 1 ≤ n ∧ n ≤ 1099511627776 ∧ 0 < rs.length + ws.length) ∧ rdsOk rs ∧ wrsOk ws := by
  unfold rightB numsB at h
  simp only [Bool.and_eq_true, decide_eq_true_eq] at h
  exact ⟨⟨h.1.1, h.1.2.1, h.1.2.2.1, h.1.2.2.2.1, by have := h.1.2.2.2.2; omega⟩, allR_ok h.2.1, allW_ok h.2.2⟩
theorem wrsOk.unlike {l : List Wr} (h : wrsOk l) : Unlike l := h.2.2.imp fun {a b} hab e => by
  rw [e] at hab
  exact kLt_irrefl _ hab

def txnB (c n : Int) (rs : List Rd) (ws : List Wr) : List UInt8 := numB c ++ numB n ++ rowR rs ++ rowW ws
/-- what Put answers -/
def PutTx (w w' : World) (b : Bool) (bs : List UInt8) (x er : Value) : Prop :=
  (b = true ∧ er = .nilIface ∧ BytesIn w' (w.heap.size ≤ ·) x bs) ∨ (b = false ∧ x = .slice none 0 0 ∧ ∃ ty y, er = .iface ty y)
set_option maxRecDepth 100000 in
set_option maxHeartbeats 16000000 in
theorem txPut_any (w : World) (A : Nat → Prop) (c n : Int) (rv wv : Value) (rs : List Rd) (ws : List Wr) (hr : RdsIn w A rv rs) (hw : WrsIn w A wv ws) (hrl : rs.length ≤ 1000000000) (hwl : ws.length ≤ 1000000000) :
    Calls Tryz.prog 10 #[.agg #[.int .i64 c, .int .i64 n, rv, wv]] w fun e w' => ∃ x er, e = .returned (.tuple #[x, er]) ∧ PutTx w w' (rightB c n rs ws) (txnB c n rs ws) x er ∧ Below w.heap.size w w' := by
  have HRV := hideIt (RowIn.lt hr)
  have HWV := hideIt (RowIn.lt hw)
  obtain ⟨ar, cr, rfl⟩ := hr.form
  obtain ⟨aw, cw, rfl⟩ := hw.form
  obtain ⟨W, hW, hwb, hws, c0, c1, c2, c3⟩ := room4t w 25 (.int .i64 c) (.int .i64 n) (.slice ar rs.length cr) (.slice aw ws.length cw)
  have HWB := hideIt hwb
  have HLN : Hid (rs.length ≤ 1000000000 ∧ ws.length ≤ 1000000000) := hideIt ⟨hrl, hwl⟩
  clear hr hw hwb hrl hwl
  go_enter Tryz.func10, Tryz.ntmps10
  go_wp2_with fail
  rw [← hW]
  clear hW
  refine (txCheck_any W _ c n _ _ rs ws (RowIn.low HRV.out HWB.out) (RowIn.low HWV.out HWB.out) HLN.out.1 HLN.out.2).mono ?_
  rintro e w1 ⟨er, rfl, hck, hb1⟩
  have HB1 := hideIt (HWB.out.trans (hb1.mono HWB.out.size))
  have d0 := (hb1.cell (lt_of_cell c0)).trans c0
  have d1 := (hb1.cell (lt_of_cell c1)).trans c1
  have d2 := (hb1.cell (lt_of_cell c2)).trans c2
  have d3 := (hb1.cell (lt_of_cell c3)).trans c3
  have hlw : w.heap.size < w1.heap.size := lt_of_cell d0
  clear hb1 c0 c1 c2 c3 hws
  rcases hck with ⟨hrb, rfl⟩ | ⟨hrb, ho⟩
  case inr =>
    have HE := hideIt hrb
    obtain ⟨ty, y, rfl⟩ := ho.iface
    clear hrb ho
    go_wp2
    go_ret2
    exact ⟨_, _, rfl, Or.inr ⟨HE.out, rfl, _, _, rfl⟩, HB1.out⟩
  have HE := hideIt hrb
  have HOK := hideIt (rightB_ok hrb)
  clear hrb
  obtain ⟨W2, hW2, hwb2, hws2⟩ : ∃ W2, W2 = w1.alloc (.cells #[.pointer none, .int .i64 0, .nilIface] 75) ∧ Below w1.heap.size w1 W2 ∧ W2.heap.size = w1.heap.size + 1 := ⟨_, rfl, (Below.refl _ _).alloc (Nat.le_refl _) _, by simp⟩
  obtain ⟨W3, hW3, hwb3, hws3, hq⟩ : ∃ W3, W3 = W2.alloc (.cells #[.pointer (some ⟨w1.heap.size, 0, none⟩)] 72) ∧ Below W2.heap.size W2 W3 ∧ W3.heap.size = w1.heap.size + 2 ∧ W3.cell? ⟨w1.heap.size + 1, 0, none⟩ = some (.pointer (some ⟨w1.heap.size, 0, none⟩)) :=
    ⟨_, rfl, (Below.refl _ _).alloc (Nat.le_refl _) _, by simp [hws2], by rw [World.cell?_alloc_at _ _ _ _ (by simp [hws2])]; rfl⟩
  have HW3 : Hid (WSt W3 w1.heap.size (fun k => k ≠ w1.heap.size) ([], false)) := hideIt (by
    have := tnew_writer w1
    rw [← hW2] at this
    exact kept_below this hwb3)
  have hb3 : Below w1.heap.size w1 W3 := hwb2.trans (hwb3.mono (by omega))
  have HB3 := hideIt (HB1.out.trans (hb3.mono HB1.out.size))
  obtain ⟨p, hp⟩ : ∃ p, p = w1.heap.size := ⟨_, rfl⟩
  have e0 := (hb3.cell (lt_of_cell d0)).trans d0
  have e1 := (hb3.cell (lt_of_cell d1)).trans d1
  have e2 := (hb3.cell (lt_of_cell d2)).trans d2
  have e3 := (hb3.cell (lt_of_cell d3)).trans d3
  have HQ := hideIt hq
  clear hwb2 hwb3 hb3 hws2 hq
  go_wp2_with fail
  rw [← hW2, ← hW3]
  clear hW2 hW3 d0 d1 d2 d3
  rw [← hp] at HW3 HQ hlw hws3 ⊢
  have hne : w.heap.size ≠ p := by omega
  have hqp : p + 1 ≠ p := by omega
  have q3 := HQ.out
  clear hp
  refine (wNum_any p _ _ c W3 HW3.out (fun k hk => by omega) (fun h => h rfl) (by simp)).mono ?_
  rw [tput_num, List.nil_append]
  rintro e w4 ⟨rfl, hw4, hg4⟩
  have HW4 := hideIt hw4
  have HB4 := hideIt (HB3.out.grown hg4 HB3.out.size (fun k hk => by injection hk with hk; omega))
  have d0 := tgrown_cell hg4 e0 hne
  have d1 := tgrown_cell hg4 e1 hne
  have d2 := tgrown_cell hg4 e2 hne
  have d3 := tgrown_cell hg4 e3 hne
  have q4 := tgrown_cell hg4 q3 hqp
  clear hw4 hg4 HW3 HB3 HQ e0 e1 e2 e3 q3
  go_wp2_with fail
  refine (wNum_any p _ _ n w4 HW4.out (fun k hk => by have := HW4.out.lt; omega) (fun h => h rfl) (by simp [numB_length])).mono ?_
  rw [tput_num]
  rintro e w5 ⟨rfl, hw5, hg5⟩
  have HW5 := hideIt hw5
  have HB5 := hideIt (HB4.out.grown hg5 HB4.out.size (fun k hk => by injection hk with hk; omega))
  have e0 := tgrown_cell hg5 d0 hne
  have e1 := tgrown_cell hg5 d1 hne
  have e2 := tgrown_cell hg5 d2 hne
  have e3 := tgrown_cell hg5 d3 hne
  have q5 := tgrown_cell hg5 q4 hqp
  clear hw5 hg5 HW4 HB4 d0 d1 d2 d3 q4
  have HR5 : Hid (RdsIn w5 (fun k => k ≠ p) (.slice ar rs.length cr) rs) := hideIt (RowIn.mono (RowIn.low HRV.out HB5.out) (fun k h _ => by omega))
  have HC5 := hideIt (txpaR_any w5 p (p + 1) _ _ rs HR5.out q5 hqp HW5.out (by simp [numB_length]) HOK.out.2.1.1 HOK.out.2.1.short)
  go_wp2_with fail
  refine HC5.out.mono ?_
  rintro e w6 ⟨rfl, hw6, hg6⟩
  have HW6 := hideIt hw6
  have HB6 := hideIt (HB5.out.grown hg6 HB5.out.size (fun k hk => by injection hk with hk; omega))
  have d3 := tgrown_cell hg6 e3 hne
  have q6 := tgrown_cell hg6 q5 hqp
  clear hw6 hg6 HW5 HB5 e0 e1 e2 e3 q5 HC5 HR5
  have HR6 : Hid (WrsIn w6 (fun k => k ≠ p) (.slice aw ws.length cw) ws) := hideIt (RowIn.mono (RowIn.low HWV.out HB6.out) (fun k h _ => by omega))
  have HC6 := hideIt (txpaW_any w6 p (p + 1) _ _ ws HR6.out q6 hqp HW6.out (by have := rowR_len HOK.out.2.1.1 HOK.out.2.1.short; simp only [List.length_append, numB_length]; omega) HOK.out.2.2.1 HOK.out.2.2.short)
  go_wp2_with fail
  refine HC6.out.mono ?_
  rintro e w7 ⟨rfl, hw7, hg7⟩
  have HW7 : Hid (WOk w7 p (fun k => k ≠ p) (txnB c n rs ws)) := hideIt hw7
  have HB7 := hideIt (HB6.out.grown hg7 HB6.out.size (fun k hk => by injection hk with hk; omega))
  have q7 := tgrown_cell hg7 q6 hqp
  clear hw7 hg7 HW6 HB6 d3 q6 HC6 HR6
  go_wp2_with fail
  refine (wBytes_ok p _ _ w7 HW7.out (by have := rowR_len HOK.out.2.1.1 HOK.out.2.1.short; have := rowW_len HOK.out.2.2.1 HOK.out.2.2.short; unfold txnB; simp only [List.length_append, numB_length]; omega)).mono ?_
  rintro e w8 ⟨v8, rfl, hr8, hb8⟩
  have HB8 := hideIt (HB7.out.trans (hb8.mono HB7.out.size))
  have HX8 : Hid (BytesIn w8 (w.heap.size ≤ ·) v8 (txnB c n rs ws)) := hideIt (RowIn.of_own hr8 (fun k hk => by have := HB7.out.size; omega))
  obtain ⟨a8, cap8, rfl⟩ := own_form hr8
  clear hr8 hb8 HW7
  go_wp2_with fail
  refine (txthrough_nil w8).mono ?_
  rintro e w9 ⟨rfl, rfl⟩
  go_wp2
  go_ret2
  exact ⟨_, _, rfl, Or.inl ⟨HE.out, rfl, HX8.out⟩, HB8.out⟩
end Go.Proofs.YtohlepbfjgehgaaGreatDoor
