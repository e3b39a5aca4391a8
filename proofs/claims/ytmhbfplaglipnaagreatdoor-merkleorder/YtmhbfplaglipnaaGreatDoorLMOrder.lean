/-
  What is proved here: the walk of cohortlaw06.MerkleOrder, over this program.
-/
import Derived.Test.YtmhbfplaglipnaaGreatDoorMZ
namespace Go.Proofs.YtmhbfplaglipnaaGreatDoor
open Go.RowKit Go.Extern.Stop Go.Stop Go.Extern

/-- the keys of the first k rise -/
def RisesTo (l : List Ent) (k : Nat) : Prop := ∀ (j : Nat) e e', j + 1 < k → l[j]? = some e → l[j + 1]? = some e' → kLt e.1 e'.1
/-- r tells whether they do -/
def RiseB (r : Bool) (l : List Ent) (k : Nat) : Prop := r = true ↔ RisesTo l k
theorem risesTo_snoc {l : List Ent} {k : Nat} {y x : Ent} (hy : l[k]? = some y) (hx : l[k + 1]? = some x) : RisesTo l (k + 1 + 1) ↔ RisesTo l (k + 1) ∧ kLt y.1 x.1 := by
  constructor
  · intro h
    exact ⟨fun j e e' hj => h j e e' (by omega), h k y x (by omega) hy hx⟩
  · rintro ⟨h1, h2⟩ j e e' hj he he'
    by_cases hk : j = k
    · subst hk
      rw [hy] at he; rw [hx] at he'
      cases he; cases he'
      exact h2
    · exact h1 j e e' (by omega) he he'
theorem right_rises {l : List Ent} (h : Right l) : RisesTo l l.length := fun j e e' hj he he' => (h.2 (j + 1) hj e' he').2.2 j rfl e he
/-- turned about, two or more whose keys rise are not right -/
theorem turned_not {l : List Ent} (h : RisesTo l l.length) (h2 : 2 ≤ l.length) : ¬ Right l.reverse := by
  intro hr
  obtain ⟨n, hn⟩ : ∃ n, l.length = n + 2 := ⟨l.length - 2, by omega⟩
  have e1 : l[n + 1]? = some l[n + 1] := by simp [show n + 1 < l.length by omega]
  have e0 : l[n]? = some l[n] := by simp [show n < l.length by omega]
  have r0 : l.reverse[0]? = some l[n + 1] := by rw [List.getElem?_reverse (by omega), show l.length - 1 - 0 = n + 1 by omega]; exact e1
  have r1 : l.reverse[1]? = some l[n] := by rw [List.getElem?_reverse (by omega), show l.length - 1 - 1 = n by omega]; exact e0
  exact kLt_asymm (h n _ _ (by omega) e0 e1) ((hr.2 1 (by rw [List.length_reverse]; omega) _ r1).2.2 0 rfl _ r0)
theorem take_rev (l : List Ent) (k : Nat) (x : Ent) (hx : l[k]? = some x) : [x] ++ (l.take k).reverse = (l.take (k + 1)).reverse := by
  rw [List.take_add_one, hx]; simp
theorem ents_turned {w : World} {B B3 : Nat} {e : TypeId} {v : Value} {x : Ent} {l : List Ent} {k m : Nat} (hm : (l.take k).reverse.length = m) (h1 : w.ownsRow B e 3 v (1 + m) (entsCells [x] ++ entsCells (l.take k).reverse)) (hx : l[k]? = some x) (hB : B3 ≤ B) : EntsIn w (B3 ≤ ·) v (l.take (k + 1)).reverse := by
  subst hm
  rw [← take_rev l k x hx]
  unfold EntsIn
  rw [entsCells_append, List.length_append]
  exact RowIn.of_own h1 (fun k hk => Nat.le_trans hB hk)

set_option maxRecDepth 100000 in
set_option maxHeartbeats 16000000 in
theorem morder_true (v : Value) (l : List Ent) (w : World) (hv : EntsIn w (· < w.heap.size) v l) (hn : l.length ≤ maxLen) (hcap : ∀ a cap, v = .slice a l.length cap → l.length ≤ cap) (hm : ∀ e ∈ l, EntOk e) (hg : ET w) (ht : PT w) :
    Calls Tryz.prog 9 #[v] w fun e w' => e = .returned (.bool true) ∧ Below w.heap.size w w' := by
  have HV0 : Hid (Env w w) := ⟨Below.refl _ _, hg, ht⟩
  have HH := hideIt (fun (w' : World) (h : Env w w') => head06_true w' h.et h.pt)
  have HA := hideIt (And.intro hv (And.intro hn (And.intro hcap hm)))
  obtain ⟨a, cap, rfl⟩ := hv.form
  clear hg ht hv hn hcap hm
  go_enter Tryz.func9, Tryz.ntmps9
  go_wp2_with fail
  refine (HH.out w HV0.out).mono ?_
  rintro e w1 ⟨rfl, hb1⟩
  have HE1 : Hid (Below w.heap.size w w1) := hideIt hb1
  have HV1 := hideIt (HV0.out.next hb1)
  clear hb1 HH
  go_wp2_with fail
  refine (bNew_any w1).mono ?_
  rintro e w2 ⟨p, rfl, hs, hb⟩
  have HS2 := hideIt (St.new HV1.out hs hb)
  have HE2 := hideIt (HE1.out.trans (hb.mono HE1.out.size))
  obtain ⟨O2, hO2⟩ : ∃ O2 : Nat → Prop, O2 = fun k => w1.heap.size ≤ k ∧ k < w2.heap.size := ⟨_, rfl⟩
  rw [← hO2] at HS2
  have HO2 : Hid (∀ k, O2 k → w.heap.size ≤ k) := hideIt (fun k hk => by rw [hO2] at hk; exact Nat.le_trans HE1.out.size hk.1)
  clear hs hb hO2
  go_wp2_with fail
  refine (great06_any _ _ l w2 (RowIn.mono (RowIn.kept HA.out.1 (Kept.of_all HE2.out)) (fun _ _ h => h)) HA.out.2.1 (fun x hx => ⟨(HA.out.2.2.2 x hx).1, (HA.out.2.2.2 x hx).2.1⟩)).mono ?_
  rintro e w3 ⟨⟨g, rfl, hgl⟩, hb3⟩
  have HE3 := hideIt (HE2.out.trans (hb3.mono HE2.out.size))
  have HS3 := hideIt (HS2.out.next hb3)
  clear hb3 HE2 HS2
  cases g with
  | true =>
    go_wp2
    go_ret
    exact ⟨rfl, HS3.out.env.1⟩
  | false =>
  have hl6 : l.length ≤ 6000 := hgl rfl
  have HL3 : Hid (EntsAp w3 O2 (.slice a l.length cap) l) := hideIt (EntsAp.start HA.out.1 HE3.out HO2.out)
  clear hgl
  go_wp2_with fail
  obtain ⟨i0, hi, hi2⟩ := Option.map_eq_some_iff.1 infoEnt
  obtain ⟨hz0, hz1, hz2⟩ : i0.zero = some (.agg #[.string ⟨#[]⟩, .string ⟨#[]⟩, .int .i64 0]) ∧ i0.size = 3 ∧ i0.bytes = 40 := by
    simp only [Prod.mk.injEq] at hi2; exact hi2
  have HI := hideIt (And.intro hi (And.intro hz0 (And.intro hz1 hz2)))
  clear hi2 hi hz0 hz1 hz2
  go_loopw [5, 6, 7] (fun rv tv iv wr => ∃ (r : Bool) (k : Nat), k ≤ l.length ∧ rv = .bool r ∧ iv = .int .i64 k ∧ Hid (RiseB r l k) ∧ Hid (EntsIn wr (w3.heap.size ≤ ·) tv (l.take k).reverse) ∧ Hid (Below w3.heap.size w3 wr)) (fun _ _ iv _ => l.length - (intOf iv).toNat)
  case atStart => exact ⟨true, 0, Nat.zero_le _, rfl, rfl, hideIt ⟨fun _ j e e' h => by omega, fun _ => rfl⟩, hideIt ⟨none, 0, rfl, fun _ => ⟨rfl, rfl, rfl⟩, fun k x hx => by simp [entsCells] at hx⟩, Below.refl _ _⟩
  case round =>
    obtain ⟨r, k, hk, rfl, rfl, HR, HT, HB⟩ := hrel
    have hlen : (l.take k).reverse.length = k := by rw [List.length_reverse, List.length_take]; omega
    obtain ⟨at2, ct, rfl⟩ := HT.out.form
    rw [hlen] at HT ⊢
    have HLN := hideIt hlen
    clear hlen
    by_cases hlt : k < l.length
    case pos =>
      obtain ⟨x, hx⟩ : ∃ x, l[k]? = some x := ⟨l[k], by simp [hlt]⟩
      have HLR := hideIt (HL3.out.next HB.out)
      obtain ⟨b, off, rfl, _, c0, c1, c2⟩ := EntsIn.at HLR.out hx
      have HX := hideIt hx
      by_cases hr : r = true
      case' neg =>
        obtain rfl : r = false := by simpa using hr
        have HN : Hid (RiseB false l (k + 1)) := hideIt ⟨fun h => (by cases h), fun h => HR.out.2 (fun j e e' hj => h j e e' (by omega))⟩
        clear hr hx
        go_wp2_with fail
        go_quiet (fail)
      case' pos =>
        subst hr
        by_cases hk0 : k = 0
        case' pos =>
          subst hk0
          have HN : Hid (RiseB true l 1) := hideIt ⟨fun _ j e e' hj => by omega, fun _ => rfl⟩
          clear hx
          go_wp2_with fail
          go_quiet (fail)
        case' neg =>
          obtain ⟨j, rfl⟩ : ∃ j, k = j + 1 := ⟨k - 1, by omega⟩
          obtain ⟨y, hy⟩ : ∃ y, l[j]? = some y := ⟨l[j], by simp [show j < l.length by omega]⟩
          obtain ⟨b', off', hbb, _, p0, _, _⟩ := EntsIn.at HLR.out hy
          cases hbb
          have HS := hideIt (risesTo_snoc hy hx)
          have k3 : (j : Int) < (l.length : Int) := by omega
          have k4 : ((j : Int) + 1 == 0) = false := by rw [beq_eq_false_iff_ne]; omega
          have k5 : IntKind.i64.wrap (j : Int) = (j : Int) := by simp [IntKind.wrap, IntKind.bits, IntKind.signed]; omega
          clear hx hy hk0
          by_cases k6 : kLt y.1 x.1
          case' pos =>
            have HN : Hid (RiseB true l (j + 1 + 1)) := hideIt ⟨fun _ => HS.out.2 ⟨HR.out.1 rfl, k6⟩, fun _ => rfl⟩
            have q1 : Op.bytesLess y.1 x.1 = true := k6
          case' neg =>
            have HN : Hid (RiseB false l (j + 1 + 1)) := hideIt ⟨fun h => (by cases h), fun h => absurd (HS.out.1 h).2 k6⟩
            have q1 : Op.bytesLess y.1 x.1 = false := by simpa [kLt] using k6
          all_goals
            clear k6
            go_wp2_with fail
            go_quiet (fail)
      all_goals
        obtain ⟨u, hu⟩ : ∃ u, u = wr.drewN nq := ⟨_, rfl⟩
        rw [← hu]
        have hub : Below wr.heap.size wr u := by rw [hu]; exact below_drewN wr nq
        clear hu
        obtain ⟨U, hU, hUb, hUs, hUo⟩ := lit_one u x
        have HU := hideIt (And.intro (hub.trans (hUb.mono hub.size)) (And.intro hUo (And.intro hUs hub.size)))
        have HTU := hideIt (RowIn.kept HT.out (Kept.of_all HU.out.1))
        obtain ⟨_, _, _, e0, e1, e2⟩ := EntsIn.at (HLR.out.next hub) HX.out
        rename_i hbb; cases hbb
        try simp only [Nat.zero_mul, Nat.add_zero] at e0 e1 e2
        clear hub hUb hUs hUo c0 c1 c2
        go_wp2_with (at_builtin; rw [← hU]; refine wpList_append_ents rfl _ _ 22 rfl u.heap.size 42 i0 (.agg #[.string ⟨#[]⟩, .string ⟨#[]⟩, .int .i64 0]) Tryz.underlying22 HI.out.1 HI.out.2.1 HI.out.2.2.1 HI.out.2.2.2 rfl _ 1 _ rfl HU.out.2.1 _ _ _ rfl HTU.out (by rw [HLN.out]; omega) (by rw [HU.out.2.2.1]; omega) ?_)
        intro v' w4 h1 h2 _
        try rw [← hU] at h2
        have hs0 := HB.out.size
        have hs1 := HU.out.1.size
        have hs2 := HU.out.2.2.1
        have hs3 := HU.out.2.2.2
        have HT4 := hideIt (ents_turned HLN.out h1 HX.out (show w3.heap.size ≤ u.heap.size by omega))
        have HB4 := hideIt ((HB.out.trans (HU.out.1.mono HB.out.size)).grown h2 (by omega) (fun k hk => by cases hk; show w3.heap.size ≤ u.heap.size; omega))
        obtain ⟨az, capz, rfl⟩ := own_form h1
        clear h1 h2 hs0 hs1 hs2 hs3 e0 e1 e2 HTU HU hU HT HLN
        go_wp2
        exact ⟨⟨_, _, by omega, rfl, by go_num, HN, HT4, HB4⟩, by simp [intOf]; omega⟩
    case neg =>
      obtain rfl : k = l.length := by omega
      have HT5 : Hid (EntsAp wr O2 (.slice at2 l.length ct) l.reverse) := hideIt (by
        have h := HT.out
        rw [List.take_length] at h
        exact RowIn.mono h (fun k hk hl => ⟨hl, fun o => by have := HS3.out.bk.2 _ o; omega⟩))
      have HL5 := hideIt (HL3.out.next HB.out)
      have HS5 := hideIt (HS3.out.next HB.out)
      clear HT HB HL3 HS3 HE3 HLN hlt
      go_wp2_with fail
      refine (mRoot_any wr p O2 [] _ l HS5.out.bk HL5.out HA.out.2.1 (fun e he => (HA.out.2.2.2 e he).2.2) (by simp)).mono ?_
      rintro e w6 ⟨x, er, c, O6, T6, rfl, g1, g2, g3, g4⟩
      have HS6 := hideIt (HS5.out.goes g1 g2)
      have HL6 := hideIt (HL5.out.goes g2)
      have HU6 := hideIt (HT5.out.goes g2)
      have HT6 : Hid (T6.length ≤ 2048) := hideIt (by have h := g2.len; simp at h; omega)
      have HR6 := hideIt g4
      have HQ6 := hideIt g3.ap
      clear g1 g2 g3 g4 HS5 HL5 HT5
      go_wp2_with fail
      refine (mProve_any w6 p O6 T6 _ l 0 0 HS6.out.bk HL6.out HA.out.2.1 (fun e he => (HA.out.2.2.2 e he).2.2) (by omega) (by have := HT6.out; omega) HA.out.2.2.1).mono ?_
      rintro e w7 ⟨p1, p2, a3, n3, c3, a4, n4, c4, fr, cf, O7, T7, rfl, g1, g2, g3, g4⟩
      obtain ⟨W7, hW, hwb, hws, _, _⟩ := room4 w7 25 (.int .i64 p1) (.int .i64 p2) (.slice a3 n3 c3) (.slice a4 n4 c4)
      have HS7 := hideIt ((HS6.out.goes g1 g2).next hwb)
      have HU7 := hideIt ((HU6.out.goes g2).next hwb)
      have HT7 : Hid (T7.length ≤ 4096) := hideIt (by have h := g2.len; have := HT6.out; omega)
      have HQ7 := hideIt ((HQ6.out.goes g2).next hwb)
      have HF7 := hideIt (g3.ap.next hwb)
      have HG7 := hideIt g4
      clear g1 g2 g3 g4 hwb hws HS6 HL6 HU6 HT6 HQ6
      go_wp2_with fail
      rw [← hW]
      clear hW
      refine (mRoot_any W7 p O7 T7 _ l.reverse HS7.out.bk HU7.out (by rw [List.length_reverse]; exact HA.out.2.1) (fun e he => (HA.out.2.2.2 e (List.mem_reverse.1 he)).2.2) (by have := HT7.out; omega)).mono ?_
      rintro e w8 ⟨y, gr, cg, O8, T8, rfl, g1, g2, g3, g4⟩
      have HS8 := hideIt (HS7.out.goes g1 g2)
      have HQ8 := hideIt (HQ7.out.goes g2)
      have HF8 := hideIt (HF7.out.goes g2)
      have HG8 := hideIt g3.ap
      have HR8 := hideIt g4
      clear g1 g2 g3 g4 HS7 HU7 HT7 HQ7 HF7
      cases r with
      | false =>
        have hnr : ¬ Right l := fun h => by have := HR.out.2 (right_rises h); cases this
        obtain ⟨rfl, rfl⟩ : x = -1 ∧ c = 1 := by
          rcases HR6.out with ⟨h, _⟩ | ⟨_, h⟩
          · exact absurd h hnr
          · exact h
        obtain rfl : cf = 1 := by
          rcases HG7.out with ⟨h, _⟩ | ⟨_, h⟩
          · exact absurd h hnr
          · exact h
        clear hnr HR6 HG7 HR8
        go_wp2_with fail
        refine (HQ8.out.code HS8.out.env.et).mono ?_
        rintro e w9 ⟨rfl, hb9⟩
        have HS9 := hideIt (HS8.out.next hb9)
        have HF9 := hideIt (HF8.out.next hb9)
        clear hb9 HS8 HQ8 HF8 HG8
        go_wp2_with fail
        refine (HF9.out.code HS9.out.env.et).mono ?_
        rintro e wz ⟨rfl, hbz⟩
        have HSZ := hideIt (HS9.out.next hbz)
        clear hbz HS9 HF9
        go_wp2
        go_ret
        exact ⟨rfl, HSZ.out.env.1⟩
      | true =>
        have hee : (er = .nilIface ∧ fr = .nilIface) ∨ (∃ t y t' y', er = .iface t y ∧ fr = .iface t' y') := by
          have hcc : c = cf := by
            rcases HR6.out with ⟨a1, a2, _⟩ | ⟨a1, _, a2⟩ <;> rcases HG7.out with ⟨b1, b2⟩ | ⟨b1, b2⟩
            · rw [a2, b2]
            · exact absurd a1 b1
            · exact absurd b1 a1
            · rw [a2, b2]
          rcases HQ8.out.form with ⟨h1, h2⟩ | ⟨h1, t, y, h2⟩ <;> rcases HF8.out.form with ⟨h3, h4⟩ | ⟨h3, t', y', h4⟩
          · exact Or.inl ⟨h2, h4⟩
          · exact absurd (hcc ▸ h1) h3
          · exact absurd (hcc.symm ▸ h3) h1
          · exact Or.inr ⟨t, y, t', y', h2, h4⟩
        have h2 : decide ((l.length : Int) < 2) = true ∨ (decide ((l.length : Int) < 2) = false ∧ y = -1 ∧ cg = 1) := by
          by_cases h : l.length < 2
          · exact Or.inl (by rw [decide_eq_true_iff]; omega)
          · refine Or.inr ⟨by rw [decide_eq_false_iff_not]; omega, ?_⟩
            have hnt := turned_not (HR.out.1 rfl) (by omega)
            rcases HR8.out with ⟨h, _⟩ | ⟨_, h⟩
            · exact absurd h hnt
            · exact h
        clear HR6 HG7 HR8
        rcases h2 with h2 | ⟨h2, rfl, rfl⟩ <;> rcases hee with ⟨rfl, rfl⟩ | ⟨t, y', t', y'', rfl, rfl⟩
        all_goals
          go_wp2_with fail
          refine wp_region_quiet_grow (by kernel_rfl) (by kernel_rfl) ?_
          intro ι _ f hf hn
          have HSF := hideIt (fun i => HS8.out.next (hf i))
          have HNN := hideIt hn
          have HA1 := hideIt (fun (i : ι) => (HG8.out.next (hf i)).code (HS8.out.next (hf i)).env.et)
          clear hf hn HQ8 HF8 HG8 HS8
          repeat (go_big_quiet_step ((go_at_call 20; exact Calls.grow HNN.out (HA1.out _))))
          refine wpQuiet_nil ?_
          rintro wz ⟨i, rfl⟩
          have HSZ := hideIt (HSF.out i)
          clear HSF HA1 HNN
          generalize f i = wz at HSZ ⊢
          clear f
          go_wp2
          go_ret
          exact ⟨rfl, HSZ.out.env.1⟩
end Go.Proofs.YtmhbfplaglipnaaGreatDoor
