/-
  What is proved here: the document's Seals (cohortref04): Sign of who may, Who, SameInts, over this program.
-/
import Derived.Test.YtpgahjnjkihmhaaGreatDoorSG
namespace Go.Proofs.YtpgahjnjkihmhaaGreatDoor
open Go.RowKit Go.Extern.Stop Go.Stop Go.Extern

theorem cell_two_fresh (w : World) (u1 u2 : Value) (t : TypeId) : ∀ (j : Nat) (x : Value), [u1, u2][j]? = some x → (w.alloc (.cells #[u1, u2] t)).cell? ((⟨w.heap.size, 0, none⟩ : Addr).add j) = some x := by
  intro j x hj
  match j, hj with
  | 0, hj => simp at hj; subst hj; simp [Addr.add]
  | 1, hj => simp at hj; subst hj; simp [Addr.add]
  | (j + 2), hj => simp at hj

/-- len of a slice, as a number of which only this is known -/
theorem wpList_len_slice {P : Program} {w : World} {ops : Array Oper} {rest : List Oper} {o : Oper} {a : Act} {Q : Exit → Act → World → Prop} (hg : o.guard = none) (m : Operand) (t : TypeId) (hop : o.op = Op.call { callee := Callee.builtin Builtin.len, args := #[m], argTypes := #[t] })
    (e : TypeId) (ht : P.underlying t = some (.slice e)) (s : Option Addr) (n c : Nat) (hm : a.eval m = .slice s n c) (hK : ∀ N : Int, Hid (N = (n : Int)) → wpList P ops Q rest (a.put o.dst (.int .i64 N)) w) :
    wpList P ops Q (o :: rest) a w := by
  refine wpList_plain hg fun K' hK' => ?_
  unfold Oper.wp
  simp [execOp, hop, resolve, invoke, builtin, hm, Builtin.len_, run_underlying ht, goInt, Result.andThen]
  exact hK' _ _ (hK _ (hideIt rfl))

set_option maxRecDepth 100000 in
set_option maxHeartbeats 8000000 in
theorem dsSign_ok (w : World) (q : Nat) (O : Nat → Prop) (L : List (Int × Int)) (who d : Int) (h : DSSt w q O L) (hok : okS who d) (hl : L.length < 131072) :
    Calls Tryz.prog 28 #[.pointer (some ⟨q, 0, none⟩), .int .i64 who, .int .i64 d] w fun e w' => e = .returned (.int .i64 0) ∧ ∃ O', DSSt w' q O' (signs L who d) ∧ Turn O w w' ∧ ∀ k, O' k → (O k ∨ w.heap.size ≤ k) ∧ k < w'.heap.size := by
  have H := hideIt h
  obtain ⟨i0, hi, hi2⟩ := Option.map_eq_some_iff.1 infoSeal
  obtain ⟨hz0, hz1, hz2⟩ : i0.zero = some (.agg #[.int .i64 0, .int .i64 0]) ∧ i0.size = 2 ∧ i0.bytes = 16 := by
    simp only [Prod.mk.injEq] at hi2; exact hi2
  have HI := hideIt (And.intro hi (And.intro hz0 (And.intro hz1 hz2)))
  clear hi2 hi hz0 hz1 hz2
  obtain ⟨g, hg⟩ : ∃ g, grp who = g := ⟨_, rfl⟩
  obtain ⟨c, hc⟩ : ∃ c, cli who = c := ⟨_, rfl⟩
  have h2 : ¬ d < 0 := by have := hok.2; omega
  have hgc : ¬ c < 0 ∨ (c < 0 ∧ ¬ g < 0) := by
    rcases hok.1 with hm | hm
    · have h1 := (grp_tells hm).2.1
      rw [hg] at h1
      by_cases h3 : c < 0
      · exact Or.inr ⟨h3, by omega⟩
      · exact Or.inl h3
    · left
      rw [← hc]; unfold cli; rw [if_pos hm]; omega
  have HK := hideIt hok
  have HL := hideIt hl
  clear h hok hl
  go_enter Tryz.func28, Tryz.ntmps28
  go_wp2_with fail
  refine (dsGroup_any who w).mono ?_
  rw [hg]
  rintro e w1 ⟨rfl, rfl⟩
  go_wp2_with fail
  refine (dsClient_any who _).mono ?_
  rw [hc]
  rintro e w2 ⟨rfl, rfl⟩
  clear hg hc
  rcases hgc with h3 | ⟨h3, h4⟩
  all_goals
    go_wp2_with fail
    refine (dsSigned_any _ q O L who d H.out (Nat.le_of_lt HL.out)).mono ?_
    rintro e w3 ⟨rfl, rfl⟩
    by_cases hm : (who, d) ∈ L
    · have h5 : decide ((who, d) ∈ L) = true := by simp [hm]
      have HE : Hid (signs L who d = L) := by unfold signs; exact if_neg (fun e => e.2 hm)
      clear hm
      rw [h5]
      clear h5
      go_wp2
      go_ret
      exact ⟨rfl, fun k => O k ∧ k < w3.heap.size, by rw [HE.out]; exact H.out.mono (fun k h1 h2 => ⟨h1, h2⟩), Turn.refl _ _, fun k hk => ⟨Or.inl hk.1, hk.2⟩⟩
    · have h5 : decide ((who, d) ∈ L) = false := by simp [hm]
      have HE : Hid (signs L who d = L ++ [(who, d)]) := by unfold signs; exact if_pos ⟨HK.out, hm⟩
      clear hm
      rw [h5]
      clear h5
      obtain ⟨vr, c0, f0, hr, o1, o2⟩ := H.out
      have HR := hideIt hr
      have HO := hideIt (And.intro o1 o2)
      have hql := lt_of_cell (a := ⟨q, 0, none⟩) c0
      obtain ⟨ar, capr, rfl⟩ := own_form hr
      clear hr o1 o2
      obtain ⟨n, hn⟩ : ∃ n : Nat, L.length = n := ⟨_, rfl⟩
      have HNN := hideIt hn
      rw [hn] at c0 HR HO
      have HL2 : Hid (n < 131072) := hideIt (by rw [← hn]; exact HL.out)
      clear hn
      go_wp2_with (at_len; refine wpList_len_slice rfl _ 67 rfl 113 Tryz.underlying67 _ _ _ rfl ?_)
      intro N hN
      have h6 : ¬ (131072 : Int) ≤ N := by have := HL2.out; have := hN.out; omega
      clear hN
      go_wp2_with (at_builtin; refine wpList_append_own_at _ rfl _ _ 67 rfl 0 113 i0 (.agg #[.int .i64 0, .int .i64 0]) 2 16 Tryz.underlying67 HI.out.1 HI.out.2.1 HI.out.2.2.1 HI.out.2.2.2 rfl (by decide) _ _ _ rfl (HR.out.alloc _) ⟨w3.heap.size, 0, none⟩ 1 1 [.int .i64 who, .int .i64 d] rfl rfl (cell_two_fresh _ _ _ _) (by intro u hu; simp at hu; rcases hu with rfl | rfl <;> rfl) (by have := HL2.out; unfold maxLen; omega) (by have := HL2.out; omega) (by omega) ?_)
      intro v' w4 hown' hgrow _ hat
      have hgr := hgrow.size
      simp at hgr
      have hqb : w4.heap[q]? = w3.heap[q]? := by
        rw [hgrow.block q (by simp; omega) (fun e => (HO.out.2 q e.symm).2 rfl)]
        exact ((Below.refl w3.heap.size w3).alloc (Nat.le_refl _) _).block q hql
      have d0 : w4.cell? ⟨q, 0, none⟩ = some (.slice ar n capr) := (World.cell?_of_block (a := ⟨q, 0, none⟩) hqb).trans c0
      have g0 : w4.frozen? ⟨q, 0, none⟩ = false := (World.frozen?_of_block (a := ⟨q, 0, none⟩) hqb).trans f0
      have HT4 : Hid (Turn O w3 w4) := by
        refine Turn.trans (O1 := O) (Turn.of_below ((Below.refl _ _).alloc (Nat.le_refl _) _)) (Turn.of_grown hgrow (fun g hg _ => (HO.out.2 g hg).1)) (fun k hk => Or.inl hk)
      have HAT : Hid (∀ g, v'.ownBlock = some g → ((Value.slice ar n capr).ownBlock = some g ∨ g = w3.heap.size + 1)) := by
        intro g hg
        rcases hat with e | e
        · exact Or.inl (by rw [← e]; exact hg)
        · rw [e] at hg; simp at hg; exact Or.inr hg.symm
      have HW := hideIt hown'
      obtain ⟨a', cap', hv'⟩ := own_form hown'
      subst hv'
      clear hown' hgrow hat c0 f0 hqb
      have hq4 : q < w4.heap.size := by omega
      go_wp2
      go_ret
      have hgq : ∀ g, (Value.slice a' (n + 1) cap').ownBlock = some g → g ≠ q := fun g hg => by
        rcases HAT.out g hg with e | e
        · exact (HO.out.2 g e).2
        · omega
      refine ⟨rfl, fun k => (O k ∨ w3.heap.size ≤ k) ∧ k < (w4.setCell ⟨q, 0, none⟩ (.slice a' (n + 1) cap')).heap.size, ?_, HT4.out.trans (O1 := O) ⟨rfl, rfl, rfl, by rw [size_set]; exact Nat.le_refl _, fun k hk ho => Below.heap_setCell w4 ⟨q, 0, none⟩ (.slice a' (n + 1) cap') k (fun e => ho (by rw [e]; exact HO.out.1))⟩ (fun k hk => Or.inl hk), fun k hk => hk⟩
      rw [HE.out]
      refine ⟨.slice a' (n + 1) cap', World.cell?_setCell_same _ _ _ d0, by rw [World.frozen?_setCell]; exact g0, ?_, ⟨Or.inl HO.out.1, by rw [size_set]; exact hq4⟩, fun g hg => ⟨⟨?_, ?_⟩, hgq g hg⟩⟩
      · have e1 : (L ++ [(who, d)]).length = n + 1 := by rw [List.length_append, HNN.out]; rfl
        rw [e1, sealRow_append]
        exact ownsRow_of_block HW.out (fun g hg => Below.heap_setCell w4 ⟨q, 0, none⟩ (.slice a' (n + 1) cap') g (hgq g hg))
      · rcases HAT.out g hg with e | e
        · exact Or.inl (HO.out.2 g e).1
        · exact Or.inr (by omega)
      · rw [size_set]; exact ownsRow_lt HW.out hg

set_option maxHeartbeats 8000000 in
theorem SameInts_true (A B : Nat → Prop) (x y : Value) (l : List Int) (w : World) (hx : NumsIn w A x l) (hy : NumsIn w B y l) (hlen : l.length ≤ 1000000) :
    Calls Tryz.prog 25 #[x, y] w fun e w' => e = .returned (.bool true) ∧ Below w.heap.size w w' := by
  have H1 := hideIt hx
  have H2 := hideIt hy
  obtain ⟨a1, cap1, rfl⟩ := hx.form
  obtain ⟨a2, cap2, rfl⟩ := hy.form
  clear hx hy
  go_enter Tryz.func25, Tryz.ntmps25
  go_wp2
  go_loopw [5] (fun i wr => ∃ k : Nat, k ≤ l.length ∧ i = .int .i64 k ∧ Hid (Below w.heap.size w wr)) (fun i _ => l.length - (intOf i).toNat)
  case atStart => exact ⟨0, Nat.zero_le _, rfl, Below.refl _ _⟩
  case round =>
    obtain ⟨k, hk, rfl, HB⟩ := hrel
    by_cases hlt : k < l.length
    · obtain ⟨z, hz⟩ : ∃ z, l[k]? = some z := ⟨l[k], by simp [hlt]⟩
      obtain ⟨b1, o1, rfl, h1, c0⟩ := NumsIn.at (RowIn.kept H1.out (Kept.of_all HB.out)) hz
      obtain ⟨b2, o2, rfl, h2, d0⟩ := NumsIn.at (RowIn.kept H2.out (Kept.of_all HB.out)) hz
      clear h1 h2 hz
      go_wp2
      go_quiet (fail)
      have HB2 := hideIt (HB.out.trans ((below_drewN wr nq).mono HB.out.size))
      generalize wr.drewN nq = w9 at HB2 ⊢
      go_wp2
      exact ⟨⟨k + 1, by omega, by go_num, HB2.out⟩, by simp [intOf]; omega⟩
    · go_wp2
      go_ret
      exact ⟨rfl, HB.out⟩
end Go.Proofs.YtpgahjnjkihmhaaGreatDoor
