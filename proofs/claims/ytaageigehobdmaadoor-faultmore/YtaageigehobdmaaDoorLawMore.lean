/-
  What is proved here: the statement's function cohortlaw01.FaultMore returns true, over this program. Conditions: the steps lie in memory as slices of them do; the library's variables lie as they are laid.
-/
import Derived.Test.YtaageigehobdmaaDoorLawTells0
import Derived.Deep.RegionHeld3
namespace Go.Proofs.YtaageigehobdmaaDoor
open Go.RowKit Go.Extern.Stop Go.Stop Go.Extern

/-- an error beside another: both are there -/
theorem At.both {w0 : World} {n : Int} {v v2 : Value} {l l2 : List (ByteArray × Int)} {w w' : World} (h : At w0 n v l w) (h2 : At w0 n v2 l2 w') (hb : Below w.heap.size w w') : At w0 n v l w' ∧ At w0 n v2 l2 w' := ⟨h.next hb, h2⟩

/-- the steps but the first -/
theorem Steps.tail {w : World} {B : Nat} {a : Option Addr} {cap n : Nat} {x : ByteArray × Int} {l : List (ByteArray × Int)} {b off : Nat} (h : Steps w B (.slice a n cap) (x :: l)) (ha : a = some ⟨b, off, none⟩) : ∀ cap', Steps w B (.slice (some ⟨b, off + 2, none⟩) l.length cap') l := by
  intro cap'
  obtain ⟨a', c', e1, hst⟩ := h
  simp only [Value.slice.injEq] at e1
  obtain ⟨rfl, _, rfl⟩ := e1
  refine ⟨_, cap', rfl, fun k y hy => ?_⟩
  obtain ⟨b1, o1, e2, h1, h2, h3⟩ := hst (k + 1) y (by simpa using hy)
  rw [ha] at e2
  cases e2
  exact ⟨b, off + 2, rfl, h1, by rw [show off + 2 + k * 2 = off + (k + 1) * 2 by omega]; exact h2, by rw [show off + 2 + k * 2 + 1 = off + (k + 1) * 2 + 1 by omega]; exact h3⟩

theorem At.trail_cap {w0 : World} {n : Int} {v : Value} {l : List (ByteArray × Int)} {w : World} (h : At w0 n v l w) (hl : l.length ≤ 1000000) :
    Calls Tryd.prog 12 #[v] w fun e w' => ∃ a cap, e = .returned (.slice a l.length cap) ∧ l.length ≤ cap ∧ Hid (Steps w' w'.heap.size (.slice a l.length cap) l) ∧ Hid (At w0 n v l w') ∧ Hid (Below w.heap.size w w') := by
  refine (Trail_chain _ l v n w h.ch h.et hl).mono ?_
  rintro e w' ⟨sl, he, ho, hb⟩
  have hst := Steps.of_own ho
  have hs2 := hst
  obtain ⟨a, cap, rfl, _⟩ := hs2
  refine ⟨a, cap, he, ?_, hst, h.next hb, hb⟩
  obtain ⟨_, ⟨e1, e2⟩ | ⟨g, cap', cur, e1, _, _, h3, _⟩⟩ := ho
  · omega
  · simp only [Value.slice.injEq] at e1
    omega

theorem four_kept {w w' : World} {b o c : Nat} {s : ByteArray} {k : Int} (h : Below w.heap.size w w') (hb : b < w.heap.size) (hc : c < w.heap.size) (h0 : w.cell? ⟨b, o, none⟩ = some (.string s)) (h1 : w.cell? ⟨b, o + 1, none⟩ = some (.int .i64 k)) (h2 : w.cell? ⟨c, 0, none⟩ = some (.string s)) (h3 : w.cell? ⟨c, 1, none⟩ = some (.int .i64 k)) :
    w'.cell? ⟨b, o, none⟩ = some (.string s) ∧ w'.cell? ⟨b, o + 1, none⟩ = some (.int .i64 k) ∧ w'.cell? ⟨c, 0, none⟩ = some (.string s) ∧ w'.cell? ⟨c, 1, none⟩ = some (.int .i64 k) :=
  ⟨(h.cell (p := ⟨b, o, none⟩) hb).trans h0, (h.cell (p := ⟨b, o + 1, none⟩) hb).trans h1, (h.cell (p := ⟨c, 0, none⟩) hc).trans h2, (h.cell (p := ⟨c, 1, none⟩) hc).trans h3⟩

theorem elemSteps : Tryd.prog.underlying 23 = some (.slice (Tryd.prog.elem 23)) := by kernel_rfl
theorem elemSteps2 (w : World) : (sizeOf (Tryd.prog.elem 23)).run Tryd.prog w = .ok 2 w := by kernel_rfl
theorem cut_steps (bb bo n cap : Nat) (hc : ¬ cap = 1) (w : World) : (Instr.slice 23 (.slice (some ⟨bb, bo, none⟩) (n + 1) cap) (some (.int .i64 1)) none none).run Tryd.prog w = .ok (.slice (some ⟨bb, bo + 2, none⟩) n (cap - 1)) w := by
  rw [run_slice_l w 23 _ (n + 1) cap elemSteps .i64 1 (by omega) (by omega), elemSteps2]
  simp [Result.andThen, sliced, hc, Addr.add]
theorem cut_steps0 (bb bo n : Nat) (w : World) : (Instr.slice 23 (.slice (some ⟨bb, bo, none⟩) (n + 1) 1) (some (.int .i64 1)) none none).run Tryd.prog w = .ok (.slice (some ⟨bb, bo, none⟩) n 0) w := by
  rw [run_slice_l w 23 _ (n + 1) 1 elemSteps .i64 1 (by omega) (by omega), elemSteps2]
  simp [Result.andThen, sliced]
theorem cut_from (T : ByteArray) (d : Nat) (h : d ≤ T.size) (w : World) : (Instr.slice 9 (.string T) (some (.int .i64 (d : Int))) none none).run Tryd.prog w = .ok (.string (T.extract d T.size)) w := by
  rw [run_slice_string_l (P := Tryd.prog) (w := w) (t := 9) (s := T) (kl := .i64) (l := (d : Int)) Tryd.underlying9 (by omega) (by omega)]
  simp
theorem cut_to (T : ByteArray) (d : Nat) (h : d ≤ T.size) (w : World) : (Instr.slice 9 (.string T) none (some (.int .i64 (d : Int))) none).run Tryd.prog w = .ok (.string (T.extract 0 d)) w := by
  rw [run_slice_string_h (P := Tryd.prog) (w := w) (t := 9) (s := T) (kh := .i64) (h := (d : Int)) Tryd.underlying9 (by omega) (by omega)]
  simp

theorem size_toArray (l : List UInt8) : (⟨l.toArray⟩ : ByteArray).size = l.length := rfl
/-- the longer text ends in the other one, and begins with the step's place -/
theorem text_cut {T R s : ByteArray} {sk : Int} {r : List (ByteArray × Int)} {n : Int} (hT : T = ⟨(textL ((s, sk) :: r) ++ errText n).toArray⟩) (hR : R = ⟨(textL r ++ errText n).toArray⟩) :
    ∃ d : Nat, ((T.size : Int) - (R.size : Int)) = (d : Int) ∧ s.size ≤ T.size ∧ 0 < d ∧ d ≤ T.size ∧ T.extract d T.size = R ∧ T.extract 0 s.size = s := by
  have e : textL ((s, sk) :: r) ++ errText n = stepText (s, sk) ++ (textL r ++ errText n) := by simp [textL]
  rw [e] at hT
  have h3 : s.data.size = s.size := rfl
  refine ⟨(stepText (s, sk)).length, ?_, ?_, ?_, ?_, ?_, ?_⟩
  · rw [hT, hR, size_toArray, size_toArray]; simp
  · rw [hT, size_toArray (stepText (s, sk) ++ (textL r ++ errText n))]; simp only [stepText, List.length_append, List.length_cons, List.length_nil, Array.length_toList]; omega
  · simp [stepText]; omega
  · rw [hT, size_toArray (stepText (s, sk) ++ (textL r ++ errText n))]; simp
  · rw [hT, hR]; apply ByteArray.ext; apply Array.ext'
    simp [ByteArray.data_extract, size_toArray]
    exact List.take_of_length_le (by simp)
  · rw [hT]; apply ByteArray.ext; apply Array.ext'
    simp [ByteArray.data_extract, stepText]

set_option maxHeartbeats 8000000 in
theorem law_more_yes (B : Nat) (sl : Value) (l : List (ByteArray × Int)) (n : Int) (hn : (n == 0) = false) (hfn : fits n) (s : ByteArray) (sk : Int) (hsk : fits sk) (hss : s.size ≤ 1000) (w : World) (hs : Steps w B sl l) (hB : B ≤ w.heap.size) (hlen : l.length ≤ maxLen) (hsz : ∀ x ∈ l, x.1.size ≤ maxLen) (hkf : ∀ x ∈ l, fits x.2) (hg : ET w) (ht : PT w) :
    Calls Tryd.prog 5 #[.int .i64 n, sl, .agg #[.string s, .int .i64 sk]] w fun e w' => e = .returned (.bool true) ∧ Below w.heap.size w w' := by
  have hbx : Below w.heap.size w (w.alloc (.cells #[.string s, .int .i64 sk] 31)) := (Below.refl _ _).alloc (Nat.le_refl _) _
  have HE := hideIt (And.intro (hg.kept hbx hg.lt) (ht.kept hbx ht.lt))
  have HH := hideIt (head_true _ HE.out.1 HE.out.2)
  have HS := hideIt ((hs.kept (hbx.mono hB)).up (Nat.le_trans hB hbx.size))
  have HZ := hideIt (And.intro hlen hsz)
  have HN := hideIt hn
  have HFN := hideIt hfn
  have HKF := hideIt hkf
  have HSK := hideIt hsk
  have HBX := hideIt hbx
  obtain ⟨a, cap, rfl, hs0⟩ := hs
  unfold maxLen at hlen
  have hss2 : ¬ (1000 : Int) < (s.size : Int) := by omega
  clear hs0 hsz hg ht hfn hkf hsk hbx
  go_enter Tryd.func5, Tryd.ntmps5
  go_wp2_with fail
  refine HH.out.mono ?_
  rintro e w1 ⟨rfl, b1⟩
  have HB1 := hideIt b1
  have HS1 := hideIt ((HS.out.kept b1).up b1.size)
  have HA1 := hideIt (At.num n (HE.out.1.kept b1 HE.out.1.lt) (HE.out.2.kept b1 HE.out.2.lt))
  have p0 : w1.cell? ⟨w.heap.size, 0, none⟩ = some (.string s) := (b1.cell (p := ⟨w.heap.size, 0, none⟩) (by simp)).trans (by simp)
  have p1 : w1.cell? ⟨w.heap.size, 1, none⟩ = some (.int .i64 sk) := (b1.cell (p := ⟨w.heap.size, 1, none⟩) (by simp)).trans (by simp)
  have hw1 : w.heap.size < w1.heap.size := by have := b1.size; simp at this; omega
  clear b1 HH HS HE
  go_wp2_with fail
  refine (great_any _ _ l w1 HS1.out HZ.out.1 HZ.out.2).mono ?_
  rintro e w2 ⟨⟨g, rfl, hgr⟩, rfl⟩
  cases g
  · have hwt : weight l < 20000 := hgr rfl
    have hl2 : l.length ≤ 2000 := by have := weight_len l; omega
    have HWT := hideIt hwt
    clear hgr hwt hlen
    go_wp2_with fail
    refine (Of_err n HN.out w2).mono ?_
    rintro e w3 ⟨rfl, rfl⟩
    go_wp2
    go_loopw [8, 9] (fun v i wr => ∃ (k : Nat) (ty : TypeId) (y : Value), k ≤ l.length ∧ v = .iface ty y ∧ i = .int .i64 k ∧ Hid (At w3 n (.iface ty y) (l.take k).reverse wr)) (fun _ i _ => l.length - (intOf i).toNat)
    case atStart => exact ⟨0, _, _, Nat.zero_le _, rfl, rfl, HA1.out⟩
    case round =>
      obtain ⟨k, ty, y, hk, rfl, rfl, HX⟩ := hrel
      by_cases hlt : k < l.length
      · obtain ⟨x, hx⟩ : ∃ x, l[k]? = some x := ⟨l[k], by simp [hlt]⟩
        obtain ⟨a', cap', e1, hst⟩ := HS1.out.kept HX.out.b
        cases e1
        obtain ⟨b, off, rfl, hbb, c0, c1⟩ := hst k x hx
        have HR := hideIt (take_rev hx)
        have HXd := hideIt (HX.out.next (below_drew wr))
        clear hst hx p0 p1
        go_wp2
        go_region_with (go_at_call 11; refine (HXd.out.wrap _ _).mono ?_; rintro e w4 ⟨ty2, y2, rfl, HX4, _⟩)
        all_goals go_wp2
        all_goals exact ⟨⟨k + 1, ty2, y2, by omega, rfl, by go_num, by rw [HR.out]; exact HX4⟩, by simp [intOf]; omega⟩
      · have ek : k = l.length := by omega
        have HX2 : Hid (At w3 n (.iface ty y) l.reverse wr) := by
          have := HX.out; rw [ek, List.take_length] at this; exact this
        have HLR : Hid (l.reverse.length = l.length ∧ (∀ z ∈ l.reverse, fits z.2) ∧ (textL l.reverse).length ≤ 1000000) := by
          have hkr : ∀ z ∈ l.reverse, fits z.2 := fun z hz => HKF.out z (by simpa using hz)
          refine ⟨by simp, hkr, ?_⟩
          have hwr : weight l.reverse < 20000 := by rw [weight_rev]; exact HWT.out
          have := weight_text l.reverse hwr hkr
          have h2 := weight_len l.reverse
          simp at this h2
          omega
        have hwr : w.heap.size < wr.heap.size := Nat.lt_of_lt_of_le hw1 HX.out.b.size
        have q0 : wr.cell? ⟨w.heap.size, 0, none⟩ = some (.string s) := (HX.out.b.cell (p := ⟨w.heap.size, 0, none⟩) hw1).trans p0
        have q1 : wr.cell? ⟨w.heap.size, 1, none⟩ = some (.int .i64 sk) := (HX.out.b.cell (p := ⟨w.heap.size, 1, none⟩) hw1).trans p1
        clear HX ek p0 p1
        generalize l.reverse = r at HX2 HLR
        obtain ⟨hrl, hkr, htr⟩ := HLR.out
        have HKR := hideIt hkr
        have HTR := hideIt htr
        have HRL := hideIt hrl
        clear hkr htr hrl HLR
        go_wp2_with fail
        refine (HX2.out.wrap s sk).mono ?_
        rintro e w4 ⟨ty2, y2, rfl, H4, HB4⟩
        have G4 := hideIt (HX2.out.next HB4.out)
        go_wp2_with fail
        refine (G4.out.trail (by have := HRL.out; omega)).mono ?_
        rintro e w5 ⟨a5, cap5, rfl, HS5, G5, HB5⟩
        have H5 := hideIt (H4.out.next HB5.out)
        go_wp2_with fail
        refine (H5.out.trail_cap (by have := HRL.out; simp; omega)).mono ?_
        rintro e w6 ⟨a6, cap6, he, hcap6, HS6, H6, HB6⟩
        rw [List.length_cons] at hcap6
        rw [List.length_cons] at he
        subst he
        have G6 := hideIt (G5.out.next HB6.out)
        have HT6 := hideIt ((HS5.out.kept HB6.out).up HB6.out.size)
        have hrl : (r.length : Int) = (l.length : Int) := by have := HRL.out; omega
        have HLT : Hid ((textL ((s, sk) :: r)).length ≤ 1099511627776) := by
          have h1 := Lib.itoa_length_le sk HSK.out.1 HSK.out.2
          have h2 := HTR.out
          have h3 : s.data.size = s.size := rfl
          simp only [Hid, textL, stepText, List.length_append, List.length_cons, List.length_nil, Array.length_toList]
          omega
        have HLT2 : Hid ((textL ((s, sk) :: r) ++ errText n).length ≤ 2000000) := by
          have h1 := Lib.itoa_length_le sk HSK.out.1 HSK.out.2
          have h4 := Lib.itoa_length_le n HFN.out.1 HFN.out.2
          have h2 := HTR.out
          have h3 : s.data.size = s.size := rfl
          simp only [Hid, textL, stepText, errText, List.length_append, List.length_cons, List.length_nil, Array.length_toList]
          omega
        have HKS : Hid (∀ z ∈ (s, sk) :: r, fits z.2) := by
          intro z hz
          rcases List.mem_cons.1 hz with rfl | hz
          · exact HSK.out
          · exact HKR.out z hz
        go_wp2_with fail
        refine (H6.out.text HFN.out (by have := HRL.out; simp; omega) HKS.out HLT.out).mono ?_
        rintro e w7 ⟨he, H7, HB7⟩
        obtain ⟨T, hT⟩ : ∃ T, T = (⟨(textL ((s, sk) :: r) ++ errText n).toArray⟩ : ByteArray) := ⟨_, rfl⟩
        rw [← hT] at he
        subst he
        have HTT := hideIt hT
        clear hT
        have G7 := hideIt (G6.out.next HB7.out)
        have HT7 := hideIt ((HT6.out.kept HB7.out).up HB7.out.size)
        have HS7 := hideIt ((HS6.out.kept HB7.out).up HB7.out.size)
        go_wp2_with fail
        refine (G7.out.text HFN.out (by have := HRL.out; omega) HKR.out (by have := HTR.out; omega)).mono ?_
        rintro e w8 ⟨he, G8, HB8⟩
        obtain ⟨R, hR⟩ : ∃ R, R = (⟨(textL r ++ errText n).toArray⟩ : ByteArray) := ⟨_, rfl⟩
        rw [← hR] at he
        subst he
        have HRR := hideIt hR
        clear hR
        have H8 := hideIt (H7.out.next HB8.out)
        have HT8 := hideIt ((HT7.out.kept HB8.out).up HB8.out.size)
        have HS8 := hideIt ((HS7.out.kept HB8.out).up HB8.out.size)
        have HBW := hideIt ((((HB4.out.trans (HB5.out.mono HB4.out.size)).trans (HB6.out.mono (Nat.le_trans HB4.out.size HB5.out.size))).trans (HB7.out.mono (Nat.le_trans (Nat.le_trans HB4.out.size HB5.out.size) HB6.out.size))).trans (HB8.out.mono (Nat.le_trans (Nat.le_trans (Nat.le_trans HB4.out.size HB5.out.size) HB6.out.size) HB7.out.size)))
        have q80 : w8.cell? ⟨w.heap.size, 0, none⟩ = some (.string s) := (HBW.out.cell (p := ⟨w.heap.size, 0, none⟩) hwr).trans q0
        have q81 : w8.cell? ⟨w.heap.size, 1, none⟩ = some (.int .i64 sk) := (HBW.out.cell (p := ⟨w.heap.size, 1, none⟩) hwr).trans q1
        have hw8 : w.heap.size < w8.heap.size := Nat.lt_of_lt_of_le hwr HBW.out.size
        clear q0 q1 HB4 HB5 HB6 HB7 HB8 H4 H5 H6 H7 G4 G5 G6 G7 HT6 HT7 HS6 HS7 HS5 HX2
        obtain ⟨bb, bo, ha6, hbb, c0, c1⟩ : ∃ b off, a6 = some ⟨b, off, none⟩ ∧ b < w8.heap.size ∧ w8.cell? ⟨b, off, none⟩ = some (.string s) ∧ w8.cell? ⟨b, off + 1, none⟩ = some (.int .i64 sk) := by
          obtain ⟨a', c', e1, hst⟩ := HS8.out
          simp only [Value.slice.injEq] at e1
          obtain ⟨rfl, _, rfl⟩ := e1
          obtain ⟨b, off, e2, h1, h2, h3⟩ := hst 0 (s, sk) rfl
          exact ⟨b, off, e2, h1, by simpa using h2, by simpa using h3⟩
        have HST := hideIt (fun cap' => HS8.out.tail ha6 cap')
        subst ha6
        have heq := fun w => eql_step_same s sk w
        obtain ⟨d, hd, hds, hdp, hdle, hex, hes⟩ := text_cut HTT.out HRR.out
        have hf : ∀ w, (Instr.slice 9 (.string T) (some (.int .i64 ((T.size : Int) - (R.size : Int)))) none none).run Tryd.prog w = .ok (.string R) w := fun w => by rw [hd, cut_from T d hdle w, hex]
        have ht : ∀ w, (Instr.slice 9 (.string T) none (some (.int .i64 (s.size : Int))) none).run Tryd.prog w = .ok (.string s) w := fun w => by rw [cut_to T s.size hds w, hes]
        have hTsz : T.size ≤ 2000000 := by
          have h1 := HLT2.out
          have h2 := HTT.out
          rw [h2, size_toArray]; exact h1
        have hdl : (0 : Int) ≤ d := Int.natCast_nonneg d
        have hlt2 : (R.size : Int) < (T.size : Int) := by omega
        have hT2 : (T.size : Int) ≤ 2000000 := by omega
        have hR2 : (0 : Int) ≤ (R.size : Int) := by omega
        have hS2 : (s.size : Int) ≤ (T.size : Int) := by omega
        have hwr2 : IntKind.i64.wrap ((T.size : Int) - (R.size : Int)) = (T.size : Int) - (R.size : Int) := IntWalk.i64_in _ (by omega)
        have Hd := hideIt (H8.out.next (below_drew w8))
        have Gd := hideIt (G8.out.next (below_drew w8))
        have HTd : Hid (Steps w8.drew w8.drew.heap.size (.slice a5 r.length cap5) r) := HT8.out.kept (below_drew w8)
        have hrr : r.length ≤ 1000000 := by have := HRL.out; omega
        have HRRL := hideIt hrr
        have HCR := hideIt hcap6
        clear HS8 HT8 H8 G8 hrr hex hes hd hds hdp hdle hdl hTsz
        clear HZ HN HKF HFN HSK HTT HRR HLT HLT2 HKS HKR HTR HRL HWT HS1 HA1 hss2 hss hn hl2 hw1 hwr hlt hk hB HBW
        by_cases hc1 : cap6 = 1
        · have hr0 : r = [] := List.length_eq_zero_iff.1 (by have := HCR.out; omega)
          subst hr0
          subst hc1
          have hsl := fun w => cut_steps0 bb bo 0 w
          have HSd : Hid (∀ cap', Steps w8.drew w8.drew.heap.size (.slice (some ⟨bb, bo, none⟩) 0 cap') []) := fun cap' => ⟨_, cap', rfl, fun k x hx => by simp at hx⟩
          clear HST hcap6
          go_wp2
          go_region_held3 (fun w' => w'.cell? ⟨bb, bo, none⟩ = some (.string s) ∧ w'.cell? ⟨bb, bo + 1, none⟩ = some (.int .i64 sk) ∧ w'.cell? ⟨w.heap.size, 0, none⟩ = some (.string s) ∧ w'.cell? ⟨w.heap.size, 1, none⟩ = some (.int .i64 sk)) (first | exact ⟨c0, c1, q80, q81⟩ | exact HK9.out | exact HK10.out | exact HK11.out | go_keep)
            (first
            | (go_at_call 15; refine (Same_true _ _ _ _ [] _ (HSd.out _) HTd.out HRRL.out).mono ?_; rintro e w9 ⟨rfl, b9⟩; have H9 := hideIt (Hd.out.next b9); have G9 := hideIt (Gd.out.next b9); have HK9 := hideIt (four_kept b9 hbb hw8 c0 c1 q80 q81); have hw9 : w.heap.size < w9.heap.size := Nat.lt_of_lt_of_le hw8 b9.size; have hb9 : bb < w9.heap.size := Nat.lt_of_lt_of_le hbb b9.size; clear b9)
            | (go_at_call_of 14 (Value.iface ty2 y2); refine H9.out.code.mono ?_; rintro e w10 ⟨rfl, H10, HB10⟩; have G10 := hideIt (G9.out.next HB10.out); have HK10 := hideIt (four_kept HB10.out hb9 hw9 HK9.out.1 HK9.out.2.1 HK9.out.2.2.1 HK9.out.2.2.2); have hw10 : w.heap.size < w10.heap.size := Nat.lt_of_lt_of_le hw9 HB10.out.size; have hb10 : bb < w10.heap.size := Nat.lt_of_lt_of_le hb9 HB10.out.size)
            | (go_at_call_of 14 (Value.iface ty y); refine G10.out.code.mono ?_; rintro e w11 ⟨rfl, G11, HB11⟩; have HK11 := hideIt (four_kept HB11.out hb10 hw10 HK10.out.1 HK10.out.2.1 HK10.out.2.2.1 HK10.out.2.2.2)))
          all_goals go_wp2
          all_goals go_ret
          all_goals exact ⟨rfl, HBX.out.trans ((HB1.out.trans (G11.out.b.mono HB1.out.size)).mono (by simp))⟩
        · have HSd : Hid (∀ cap', Steps w8.drew w8.drew.heap.size (.slice (some ⟨bb, bo + 2, none⟩) r.length cap') r) := fun cap' => (HST.out cap').kept (below_drew w8)
          have hsl := fun w => cut_steps bb bo r.length cap6 hc1 w
          clear HST
          go_wp2
          go_region_held3 (fun w' => w'.cell? ⟨bb, bo, none⟩ = some (.string s) ∧ w'.cell? ⟨bb, bo + 1, none⟩ = some (.int .i64 sk) ∧ w'.cell? ⟨w.heap.size, 0, none⟩ = some (.string s) ∧ w'.cell? ⟨w.heap.size, 1, none⟩ = some (.int .i64 sk)) (first | exact ⟨c0, c1, q80, q81⟩ | exact HK9.out | exact HK10.out | exact HK11.out | go_keep)
            (first
            | (go_at_call 15; refine (Same_true _ _ _ _ r _ (HSd.out _) HTd.out HRRL.out).mono ?_; rintro e w9 ⟨rfl, b9⟩; have H9 := hideIt (Hd.out.next b9); have G9 := hideIt (Gd.out.next b9); have HK9 := hideIt (four_kept b9 hbb hw8 c0 c1 q80 q81); have hw9 : w.heap.size < w9.heap.size := Nat.lt_of_lt_of_le hw8 b9.size; have hb9 : bb < w9.heap.size := Nat.lt_of_lt_of_le hbb b9.size; clear b9)
            | (go_at_call_of 14 (Value.iface ty2 y2); refine H9.out.code.mono ?_; rintro e w10 ⟨rfl, H10, HB10⟩; have G10 := hideIt (G9.out.next HB10.out); have HK10 := hideIt (four_kept HB10.out hb9 hw9 HK9.out.1 HK9.out.2.1 HK9.out.2.2.1 HK9.out.2.2.2); have hw10 : w.heap.size < w10.heap.size := Nat.lt_of_lt_of_le hw9 HB10.out.size; have hb10 : bb < w10.heap.size := Nat.lt_of_lt_of_le hb9 HB10.out.size)
            | (go_at_call_of 14 (Value.iface ty y); refine G10.out.code.mono ?_; rintro e w11 ⟨rfl, G11, HB11⟩; have HK11 := hideIt (four_kept HB11.out hb10 hw10 HK10.out.1 HK10.out.2.1 HK10.out.2.2.1 HK10.out.2.2.2)))
          all_goals go_wp2
          all_goals go_ret
          all_goals exact ⟨rfl, HBX.out.trans ((HB1.out.trans (G11.out.b.mono HB1.out.size)).mono (by simp))⟩
  · go_wp2
    go_ret
    exact ⟨rfl, HBX.out.trans (HB1.out.mono (by simp))⟩

set_option maxHeartbeats 8000000 in
/-- where the statement asks nothing -/
theorem law_more_no (B : Nat) (sl : Value) (l : List (ByteArray × Int)) (n : Int) (s : ByteArray) (sk : Int) (hss : s.size ≤ maxLen) (w : World) (hs : Steps w B sl l) (hB : B ≤ w.heap.size) (hlen : l.length ≤ maxLen) (hsz : ∀ x ∈ l, x.1.size ≤ maxLen) (hg : ET w) (ht : PT w) (h : n = 0 ∨ 1000 < s.size) :
    Calls Tryd.prog 5 #[.int .i64 n, sl, .agg #[.string s, .int .i64 sk]] w fun e w' => e = .returned (.bool true) ∧ Below w.heap.size w w' := by
  have hbx : Below w.heap.size w (w.alloc (.cells #[.string s, .int .i64 sk] 31)) := (Below.refl _ _).alloc (Nat.le_refl _) _
  have HH := hideIt (head_true _ (hg.kept hbx hg.lt) (ht.kept hbx ht.lt))
  have HS := hideIt ((hs.kept (hbx.mono hB)).up (Nat.le_trans hB hbx.size))
  have HZ := hideIt (And.intro hlen hsz)
  have HBX := hideIt hbx
  obtain ⟨a, cap, rfl, hs0⟩ := hs
  unfold maxLen at hss
  clear hs0 hsz hg ht hbx hlen
  by_cases hbig : (1000 : Int) < (s.size : Int)
  · clear h
    go_enter Tryd.func5, Tryd.ntmps5
    go_wp2_with fail
    refine HH.out.mono ?_
    rintro e w1 ⟨rfl, b1⟩
    have HB1 := hideIt b1
    have HS1 := hideIt ((HS.out.kept b1).up b1.size)
    have p0 : w1.cell? ⟨w.heap.size, 0, none⟩ = some (.string s) := (b1.cell (p := ⟨w.heap.size, 0, none⟩) (by simp)).trans (by simp)
    clear b1 HH HS
    go_wp2_with fail
    refine (great_any _ _ l w1 HS1.out HZ.out.1 HZ.out.2).mono ?_
    rintro e w2 ⟨⟨g, rfl, hgr⟩, rfl⟩
    clear hgr
    cases g
    all_goals
      go_wp2
      go_ret
      exact ⟨rfl, HBX.out.trans (HB1.out.mono (by simp))⟩
  · have hn : n = 0 := by rcases h with h | h <;> omega
    subst hn
    clear h
    go_enter Tryd.func5, Tryd.ntmps5
    go_wp2_with fail
    refine HH.out.mono ?_
    rintro e w1 ⟨rfl, b1⟩
    have HB1 := hideIt b1
    have HS1 := hideIt ((HS.out.kept b1).up b1.size)
    have p0 : w1.cell? ⟨w.heap.size, 0, none⟩ = some (.string s) := (b1.cell (p := ⟨w.heap.size, 0, none⟩) (by simp)).trans (by simp)
    clear b1 HH HS
    go_wp2_with fail
    refine (great_any _ _ l w1 HS1.out HZ.out.1 HZ.out.2).mono ?_
    rintro e w2 ⟨⟨g, rfl, hgr⟩, rfl⟩
    clear hgr
    cases g
    all_goals
      go_wp2
      go_ret
      exact ⟨rfl, HBX.out.trans (HB1.out.mono (by simp))⟩

theorem law_more (B : Nat) (sl : Value) (l : List (ByteArray × Int)) (n : Int) (hfn : fits n) (s : ByteArray) (sk : Int) (hsk : fits sk) (hss : s.size ≤ maxLen) (w : World) (hs : Steps w B sl l) (hB : B ≤ w.heap.size) (hlen : l.length ≤ maxLen) (hsz : ∀ x ∈ l, x.1.size ≤ maxLen) (hkf : ∀ x ∈ l, fits x.2) (hg : ET w) (ht : PT w) :
    Calls Tryd.prog 5 #[.int .i64 n, sl, .agg #[.string s, .int .i64 sk]] w fun e w' => e = .returned (.bool true) ∧ Below w.heap.size w w' := by
  by_cases h : n = 0 ∨ 1000 < s.size
  · exact law_more_no B sl l n s sk hss w hs hB hlen hsz hg ht h
  · exact law_more_yes B sl l n (by have : ¬ n = 0 := fun e => h (Or.inl e); simpa using this) hfn s sk hsk (by omega) w hs hB hlen hsz hkf hg ht
end Go.Proofs.YtaageigehobdmaaDoor
