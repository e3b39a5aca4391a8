/-
  What is proved here: the walk of cohortlaw07.StoreDrops, over this program.
-/
import Derived.Test.YtddmjbmfkdhhgaaDoorEP
import Derived.Test.YtddmjbmfkdhhgaaDoorLSLays
namespace Go.Proofs.YtddmjbmfkdhhgaaDoor
open Go.RowKit Go.Extern.Stop Go.Stop Go.Extern

theorem Fit.filter {l : List Ent} (p : Ent → Bool) (h : Fit l) : Fit (l.filter p) := by
  refine ⟨Nat.le_trans (List.length_filter_le _ _) h.1, fun j hj e he => ?_⟩
  obtain ⟨h1, h2, h3⟩ := h.mem (List.mem_filter.1 (List.mem_of_getElem? he)).1
  refine ⟨h1, h2, h3, fun j' hj' e' he' => ?_⟩
  exact (h.rising.filter p) j' j e' e (by omega) he' he
theorem part_len (l : List Ent) (p : Ent → Bool) : (l.filter fun e => !p e).length + (l.filter p).length = l.length := by
  induction l with
  | nil => rfl
  | cons x r ih =>
    cases h : p x with
    | true => rw [List.filter_cons_of_neg (by simp [h]), List.filter_cons_of_pos h]; simp only [List.length_cons]; omega
    | false => rw [List.filter_cons_of_pos (by simp [h]), List.filter_cons_of_neg (by simp [h])]; simp only [List.length_cons]; omega
theorem part_none (l : List Ent) (p : Ent → Bool) : (l.filter fun e => !p e).filter p = [] := by
  rw [List.filter_filter, List.filter_eq_nil_iff]
  intro e _
  cases p e <;> simp
/-- laid in again all is as it was -/
theorem lay_back {l l' : List Ent} {p : Ent → Bool} {w' : World} {B : Nat} {er : Value} (hf : Fit l) (h : LayIs (l.filter fun e => !p e) (l.filter p) w' B er l') : er = .nilIface ∧ l' = l := by
  rcases h with ⟨n, _, _, ⟨_, h⟩ | ⟨_, _, r, hm, hr⟩⟩ | ⟨h1, _, hm, _⟩
  · exact absurd (hf.filter p) h
  · rw [hm.back p hf.rising] at hr
    have := hf.1
    omega
  · exact ⟨h1, hm.back p hf.rising⟩
theorem EntsOff.of_own {w : World} {O : Nat → Prop} {B : Nat} {v : Value} {l : List Ent} (h : w.ownsRow B 28 3 v l.length (entsCells l)) (hO : ∀ k, O k → k < B) : EntsOff w O v l :=
  RowIn.mono (RowIn.of_own (A := fun k => B ≤ k) h (fun _ h => h)) (fun k hk hl => ⟨hl, fun o => by have := hO k o; omega⟩)

set_option maxRecDepth 100000 in
set_option maxHeartbeats 16000000 in
theorem sdrops_true (v : Value) (l : List Ent) (fk tk : List UInt8) (w : World) (hv : EntsIn w (· < w.heap.size) v l) (hn : l.length ≤ maxLen) (hg : ET w) (ht : PT w) :
    Calls Tryd.prog 4 #[v, .string ⟨fk.toArray⟩, .string ⟨tk.toArray⟩] w fun e w' => e = .returned (.bool true) ∧ Below w.heap.size w w' := by
  have HV0 : Hid (Env w w) := ⟨Below.refl _ _, hg, ht⟩
  have HH := hideIt (head07_true w hg ht)
  have HA := hideIt (And.intro hv hn)
  obtain ⟨a, cap, rfl⟩ := hv.form
  clear hg ht hv hn
  go_enter Tryd.func4, Tryd.ntmps4
  go_wp2_with fail
  refine HH.out.mono ?_
  rintro e w1 ⟨rfl, hb1⟩
  have HV1 := hideIt (HV0.out.next hb1)
  have HA1 := hideIt (HA.out.1.kept (Kept.of_below hb1 (fun _ h _ => h)))
  clear hb1 HH
  go_wp2_with fail
  refine (stof_any w1 _ _ l HA1.out HA.out.2).mono ?_
  rintro e w2 (⟨hf, p, rfl, hns⟩ | ⟨_, rfl, hb2⟩)
  case inr =>
    have HV2 := hideIt (HV1.out.next hb2)
    clear hb2
    go_wp2
    go_ret
    exact ⟨rfl, HV2.out.1⟩
  have HS2 := hideIt (Ss.new HV1.out hns)
  obtain ⟨O2, hO2⟩ : ∃ O2 : Nat → Prop, O2 = fun k => w1.heap.size ≤ k ∧ k < w2.heap.size := ⟨_, rfl⟩
  rw [← hO2] at HS2
  have HF := hideIt hf
  have HL := hideIt (show l.length ≤ 1000 by have := hf.1; omega)
  clear hns hf hO2 HA1 HV0 HV1
  go_wp2_with fail
  refine (great07_any _ l w2 a cap rfl).mono ?_
  rintro e w3 ⟨⟨g, rfl, _⟩, hb3⟩
  have HS3 := hideIt (HS2.out.next hb3)
  clear hb3 HS2
  cases g with
  | true =>
    go_wp2
    go_ret
    exact ⟨rfl, HS3.out.env.1⟩
  | false =>
  go_wp2_with fail
  refine (strange_any w3 p O2 l fk tk HS3.out.sto HF.out.rising HL.out).mono ?_
  rintro e w4 ⟨vr, rfl, hrow, hb4⟩
  have HOF : Hid (EntsOff w4 O2 vr (l.filter (inR fk tk))) := hideIt (EntsOff.of_own hrow (by obtain ⟨_, _, _, _, h, _⟩ := HS3.out.sto; exact h))
  have HCP := hideIt (own_cap hrow)
  obtain ⟨ar, cr, rfl⟩ := own_form hrow
  have HS4 := hideIt (HS3.out.next hb4)
  obtain ⟨M, hM⟩ : ∃ M, M = (l.filter (inR fk tk)).length := ⟨_, rfl⟩
  have hml : M ≤ 1000 := by have := HL.out; have := List.length_filter_le (inR fk tk) l; omega
  have HPL := hideIt (part_len l (inR fk tk))
  rw [← hM] at HPL HCP ⊢
  have HMM := hideIt hM
  clear hrow hb4 HS3 hM
  go_wp2
  go_loopw [10] (fun iv wr => ∃ k : Nat, k ≤ M ∧ iv = .int .i64 k ∧ wr = w4) (fun iv _ => M - (intOf iv).toNat)
  case atStart => exact ⟨0, Nat.zero_le _, rfl, rfl⟩
  case round =>
  obtain ⟨k, hk, rfl, hwr⟩ := hrel
  subst hwr
  by_cases hlt : k < M
  case pos =>
    obtain ⟨e, he⟩ : ∃ e, (l.filter (inR fk tk))[k]? = some e := ⟨(l.filter (inR fk tk))[k]'(by have := HMM.out; omega), by simp⟩
    obtain ⟨b, off, rfl, _, e0, _, _⟩ := EntsIn.at HOF.out he
    have hin := (List.mem_filter.1 (List.mem_of_getElem? he)).2
    unfold inR upB at hin
    rw [Bool.and_eq_true, Bool.not_eq_true', Bool.or_eq_true] at hin
    obtain ⟨r1, r23⟩ := hin
    have hgeq := leq_iff tk e.1
    clear he
    cases r2 : tk == [] with
    | true =>
      clear r23 hgeq
      go_wp2
      exact ⟨⟨k + 1, by omega, by go_num, by trivial⟩, by simp [intOf]; omega⟩
    | false =>
      have r3 : Op.bytesLess e.1 tk = true := by
        rcases r23 with h | h
        · rw [r2] at h; cases h
        · exact h
      rw [r3, Bool.not_true] at hgeq
      clear r23
      go_wp2
      exact ⟨⟨k + 1, by omega, by go_num, by trivial⟩, by simp [intOf]; omega⟩
  case neg =>
    obtain rfl : k = M := by omega
    go_wp2_with fail
    refine (stdrop_any wr p O2 l fk tk HS4.out.sto HF.out.rising HL.out).mono ?_
    rintro e w5 ⟨rfl, hs5, ht5⟩
    have hm5 : Move wr O2 w5 O2 := ⟨ht5, fun _ h => Or.inl h⟩
    have HS5 := hideIt (HS4.out.move hs5 hm5)
    have HO5 := hideIt (HOF.out.move hm5)
    have HF5 := hideIt (HF.out.filter (fun e => !inR fk tk e))
    have HL5 := hideIt (show (l.filter fun e => !inR fk tk e).length ≤ 1000 by have := HF5.out.1; omega)
    clear hs5 ht5 hm5 HS4 HOF
    go_wp2_with fail
    refine (strange_any w5 p O2 _ [] [] HS5.out.sto HF5.out.rising HL5.out).mono ?_
    rintro e w6 ⟨vr, rfl, hrow, hb6⟩
    rw [all_in] at hrow
    obtain ⟨a6, c6, rfl⟩ := own_form hrow
    have HS6 := hideIt (HS5.out.next hb6)
    have HO6 := hideIt (HO5.out.next hb6)
    obtain ⟨N, hN⟩ : ∃ N, N = (l.filter fun e => !inR fk tk e).length := ⟨_, rfl⟩
    rw [← hN] at HPL ⊢
    have HNN := hideIt hN
    have hsum : (N : Int) + (k : Int) = (l.length : Int) := by have := HPL.out; omega
    have hwr2 : IntKind.i64.wrap ((N : Int) + (k : Int)) = (l.length : Int) := by rw [hsum]; simp [IntKind.wrap, IntKind.bits, IntKind.signed]; have := HL.out; omega
    clear hrow hb6 HS5 HO5 hN hsum
    go_wp2_with fail
    refine (strange_any w6 p O2 _ fk tk HS6.out.sto HF5.out.rising HL5.out).mono ?_
    rintro e w7 ⟨vr, rfl, hrow, hb7⟩
    rw [part_none] at hrow
    obtain ⟨a7, c7, rfl⟩ := own_form hrow
    rw [show ([] : List Ent).length = 0 from rfl]
    have HS7 := hideIt (HS6.out.next hb7)
    have HO7 := hideIt (HO6.out.next hb7)
    have hll : ((l.length : Int) != (l.length : Int)) = false := by simp
    clear hrow hb7 HS6 HO6
    go_wp2_with fail
    refine (stlay_any w7 p O2 _ _ (l.filter (inR fk tk)) _ HS7.out.sto HF5.out (by have h := HO7.out; unfold EntsOff at h; rw [← HMM.out] at h; exact h) (by unfold maxLen; have := HMM.out; omega) (by intro a c e; obtain ⟨a', c', e1, h1⟩ := HCP.out; rw [e1] at e; cases e; have := HMM.out; omega)).mono ?_
    rintro e w8 ⟨er, l', O8, rfl, g1, g2, g3⟩
    obtain ⟨rfl, rfl⟩ := lay_back HF.out g3
    have HS8 := hideIt (HS7.out.move g1 g2)
    clear g1 g2 g3 HS7 HO7
    go_wp2_with fail
    refine (strange_any w8 p O8 _ [] [] HS8.out.sto HF.out.rising HL.out).mono ?_
    rintro e w9 ⟨vr, rfl, hrow, hb9⟩
    rw [all_in] at hrow
    have HR9 : Hid (EntsIn w9 _ vr l') := hideIt (own_in hrow)
    obtain ⟨a9, c9, rfl⟩ := own_form hrow
    have HS9 := hideIt (HS8.out.next hb9)
    clear hrow hb9 HS8
    have HA9 := hideIt (HA.out.1.kept (Kept.of_below HS9.out.env.1 (fun _ h _ => h)))
    go_wp2_with fail
    refine (Same06_any _ _ _ _ l' l' w9 HR9.out HA9.out HA.out.2).mono ?_
    rintro e w10 ⟨rfl, hb10⟩
    rw [decide_eq_true (rfl : l' = l')]
    have HS10 := hideIt (HS9.out.next hb10)
    clear hb10
    go_wp2
    go_ret
    exact ⟨rfl, HS10.out.env.1⟩
end Go.Proofs.YtddmjbmfkdhhgaaDoor
