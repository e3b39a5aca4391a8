/-
  What is proved here: Lock; over this program.
-/
import Derived.Test.YtnojbejjlahhkaaGreatDoorHD
namespace Go.Proofs.YtnojbejjlahhkaaGreatDoor
open Go.RowKit Go.Extern.Stop Go.Stop Go.Extern

/-- somebody is given keys -/
def puts (L : Lk) (who : Int) (keys : List (List UInt8)) : Lk := keys.foldl (fun l s => putL l s who) L
theorem puts_snoc (L : Lk) (who : Int) (a : List (List UInt8)) (s : List UInt8) : puts L who (a ++ [s]) = putL (puts L who a) s who := by simp [puts]
theorem puts_rise {L : Lk} (h : KRise L) (who : Int) : ∀ keys, KRise (puts L who keys) := fun keys => by
  induction keys generalizing L with
  | nil => exact h
  | cons s r ih => exact ih (put_rise h s who)
theorem put_len {L : Lk} (h : KRise L) (s : List UInt8) (n : Int) : L.length ≤ (putL L s n).length := by
  unfold putL
  rw [ins_len]
  have : ∀ {L : Lk}, KRise L → L.length ≤ (L.filter fun x => !(x.1 == s)).length + 1 := by
    intro L h
    induction L with
    | nil => simp
    | cons x r ih =>
      obtain ⟨h1, h2⟩ := List.pairwise_cons.1 h
      by_cases e : x.1 = s
      · have h3 : (r.filter fun x => !(x.1 == s)) = r := List.filter_eq_self.2 fun y hy => by
          have := h1 y hy
          simp only [Bool.not_eq_true', beq_eq_false_iff_ne]
          intro e2
          rw [e, e2] at this
          exact kLt_irrefl _ this
        rw [List.filter_cons_of_neg (by simp [e]), h3]
        simp
      · have e2 : (!(x.1 == s)) = true := by simp [e]
        rw [List.filter_cons_of_pos (by simpa using e)]
        have := ih h2
        simp only [List.length_cons]
        omega
  exact this h
theorem puts_len {L : Lk} (h : KRise L) (who : Int) : ∀ keys, L.length ≤ (puts L who keys).length := fun keys => by
  induction keys generalizing L with
  | nil => exact Nat.le_refl _
  | cons s r ih => exact Nat.le_trans (put_len h s who) (ih (put_rise h s who))
theorem puts_take {L : Lk} (h : KRise L) (who : Int) (keys : List (List UInt8)) (k : Nat) : (puts L who (keys.take k)).length ≤ (puts L who keys).length := by
  have e : puts L who keys = puts (puts L who (keys.take k)) who (keys.drop k) := by
    unfold puts
    rw [← List.foldl_append, List.take_append_drop]
  rw [e]
  exact puts_len (puts_rise h who _) who _
theorem hold_puts {L : Lk} (h : KRise L) (who : Int) (keys : List (List UInt8)) (t : List UInt8) : holdL (puts L who keys) t = if t ∈ keys then some who else holdL L t := by
  induction keys generalizing L with
  | nil => simp [puts]
  | cons s r ih =>
    have e : puts L who (s :: r) = puts (putL L s who) who r := rfl
    rw [e, ih (put_rise h s who), hold_put h]
    by_cases h1 : t ∈ r
    · simp [h1]
    · by_cases h2 : t = s <;> simp [h1, h2]

/-- texts in a slice -/
def KeysIn (w : World) (A : Nat → Prop) (v : Value) (l : List (List UInt8)) : Prop := RowIn w A v l.length (strCells l)
theorem KeysIn.form {w : World} {A : Nat → Prop} {v : Value} {l : List (List UInt8)} (h : KeysIn w A v l) : ∃ a cap, v = .slice a l.length cap := by
  obtain ⟨a, cap, h1, _⟩ := h
  exact ⟨a, cap, h1⟩
theorem KeysIn.at {w : World} {A : Nat → Prop} {a : Option Addr} {n cap : Nat} {l : List (List UInt8)} (h : KeysIn w A (.slice a n cap) l) {k : Nat} {s : List UInt8} (hs : l[k]? = some s) :
    ∃ b off, a = some ⟨b, off, none⟩ ∧ A b ∧ w.cell? ⟨b, off + k, none⟩ = some (.string ⟨s.toArray⟩) := by
  obtain ⟨a', cap', e1, _, h2⟩ := h
  simp only [Value.slice.injEq] at e1
  obtain ⟨rfl, _, rfl⟩ := e1
  exact h2 k _ (by simp [strCells, hs, encStr])

/-- why Lock gives nothing -/
def LkErr (L : Lk) (who : Int) (keys : List (List UInt8)) (n at_ : Int) : Prop :=
  (who < 0 ∧ n = 1 ∧ at_ = -1) ∨ (0 ≤ who ∧ ∃ (i : Nat) (s : List UInt8), keys[i]? = some s ∧ (∀ (j : Nat) t, j < i → keys[j]? = some t → barE L who t = 0) ∧ n = barE L who s ∧ (n = 1 ∨ n = 81) ∧ at_ = i) ∨
  (0 ≤ who ∧ (∀ (j : Nat) t, keys[j]? = some t → barE L who t = 0) ∧ 128 < (puts L who keys).length ∧ n = 71 ∧ at_ = L.length)
/-- what Lock answers, and who has which keys then -/
def LockIs (L : Lk) (who : Int) (keys : List (List UInt8)) (w' : World) (B : Nat) (er : Value) (L' : Lk) : Prop :=
  (∃ n at_, One w' (B ≤ ·) er n ⟨#[108, 111, 99, 107]⟩ at_ ∧ L' = L ∧ LkErr L who keys n at_) ∨
  (er = .nilIface ∧ 0 ≤ who ∧ (∀ (j : Nat) t, keys[j]? = some t → barE L who t = 0) ∧ L' = puts L who keys ∧ (puts L who keys).length ≤ 128)
theorem bar_cases (L : Lk) (who : Int) (s : List UInt8) : barE L who s = 0 ∨ barE L who s = 1 ∨ barE L who s = 81 := by
  unfold barE
  split
  · exact Or.inr (Or.inl rfl)
  · split
    · split
      · exact Or.inl rfl
      · exact Or.inr (Or.inr rfl)
    · exact Or.inl rfl

set_option maxRecDepth 100000 in
set_option maxHeartbeats 16000000 in
theorem lkLock_any (w : World) (p : Nat) (O : Nat → Prop) (L : Lk) (who : Int) (v : Value) (keys : List (List UInt8)) (h : LkSt w p O L) (hf : fits who) (hv : KeysIn w (· < w.heap.size) v keys) (hn : keys.length ≤ maxLen) (hs : ∀ s ∈ keys, s.length ≤ maxLen) :
    Calls Tryz.prog 7 #[.pointer (some ⟨p, 0, none⟩), .int .i64 who, v] w fun e w' => ∃ er L' O', e = .returned er ∧ LkSt w' p O' L' ∧ Move w O w' O' ∧ LockIs L who keys w' w.heap.size er L' := by
  have HS := hideIt h
  have HV := hideIt hv
  have HF := hideIt hf
  have HZ := hideIt hs
  obtain ⟨a, cap, rfl⟩ := hv.form
  unfold maxLen at hn
  clear h hv hf hs
  by_cases hw : who < 0
  · go_enter Tryz.func7, Tryz.ntmps7
    go_wp2_with fail
    refine (lkwrong_any w 1 (-1) rfl).mono ?_
    rintro e w1 ⟨er, rfl, ho, hb⟩
    have HO := hideIt (ho.mono (A' := (w.heap.size ≤ ·)) (fun k hk _ => by omega))
    have HB := hideIt hb
    clear ho hb
    go_wp2
    go_ret
    exact ⟨_, L, O, rfl, HS.out.next HB.out, Move.of_below HB.out, Or.inl ⟨1, -1, HO.out, rfl, Or.inl ⟨hw, rfl, rfl⟩⟩⟩
  · go_enter Tryz.func7, Tryz.ntmps7
    go_wp2
    go_loopw [18] (fun iv wr => ∃ k : Nat, k ≤ keys.length ∧ iv = .int .i64 k ∧ Hid (∀ (j : Nat) t, j < k → keys[j]? = some t → barE L who t = 0) ∧ Hid (Below w.heap.size w wr)) (fun iv _ => keys.length - (intOf iv).toNat)
    case atStart => exact ⟨0, Nat.zero_le _, rfl, hideIt (fun j t hj => by omega), hideIt (Below.refl _ _)⟩
    case round =>
      obtain ⟨k, hk, rfl, HK, HB⟩ := hrel
      by_cases hlt : k < keys.length
      case pos =>
        obtain ⟨s, hs⟩ : ∃ s, keys[k]? = some s := ⟨keys[k], by simp [hlt]⟩
        obtain ⟨b, off, rfl, _, c1⟩ := KeysIn.at (RowIn.kept HV.out (Kept.of_below HB.out (fun _ h _ => h))) hs
        have HX := hideIt hs
        have HSZ := hideIt (HZ.out s (List.mem_of_getElem? hs))
        clear hs
        go_wp2_with fail
        refine (lkbarred_any wr p O L who s (HS.out.next HB.out) HSZ.out).mono ?_
        rintro e w2 ⟨rfl, hb2⟩
        have HB2 := hideIt (HB.out.trans (hb2.mono HB.out.size))
        clear hb2
        obtain ⟨z, hz⟩ : ∃ z, barE L who s = z := ⟨_, rfl⟩
        have hzc : z = 0 ∨ z = 1 ∨ z = 81 := hz ▸ bar_cases L who s
        rw [hz]
        have HBZ := hideIt hz
        clear hz
        rcases hzc with rfl | hzc
        · go_wp2
          exact ⟨⟨k + 1, by omega, by go_num, hideIt (fun j t hj ht => by
            by_cases e : j = k
            · subst e; rw [HX.out] at ht; cases ht; exact HBZ.out
            · exact HK.out j t (by omega) ht), HB2⟩, by simp [intOf]; omega⟩
        · have hz0 : (z == 0) = false := by rcases hzc with rfl | rfl <;> rfl
          have hz1 : (z != 0) = true := by rcases hzc with rfl | rfl <;> rfl
          have HZC := hideIt hzc
          clear hzc
          go_wp2_with fail
          refine (lkwrong_any w2 z k hz0).mono ?_
          rintro e w3 ⟨er, rfl, ho, hb3⟩
          have hbz := HB2.out.size
          have HO := hideIt (ho.mono (A' := (w.heap.size ≤ ·)) (fun k hk _ => by omega))
          have HB3 := hideIt (HB2.out.trans (hb3.mono HB2.out.size))
          clear ho hb3
          go_wp2
          go_ret
          exact ⟨_, L, O, rfl, HS.out.next HB3.out, Move.of_below HB3.out, Or.inl ⟨z, k, HO.out, rfl, Or.inr (Or.inl ⟨by omega, k, s, HX.out, HK.out, HBZ.out.symm, HZC.out, rfl⟩)⟩⟩
      case neg =>
        obtain rfl : k = keys.length := by omega
        have HALL : Hid (∀ (j : Nat) t, keys[j]? = some t → barE L who t = 0) := hideIt fun j t ht => HK.out j t (List.getElem?_eq_some_iff.1 ht).1 ht
        have HS1 := hideIt (HS.out.next HB.out)
        obtain ⟨m, c0, f0, hm, o1, o2, o3, o4⟩ := HS1.out
        have HM := hideIt hm
        have hpl := o3 p o1
        clear HK f0 hm o1 o2 o3
        go_wp2_with fail
        refine (show Calls Tryz.prog 25 #[.map (some m)] wr _ from AnyW.maps_Clone_owns Tryz.cloneM 9 (plainElem Tryz.prog 3) m L.length (DL L) wr HM.out).mono ?_
        rintro e w2 ⟨rfl, hm2, _, hb2⟩
        have hm2l := hm2.lt
        have HM2 := hideIt hm2
        have HB2 := hideIt (HB.out.trans (hb2.mono HB.out.size))
        have hwl := HB.out.size
        generalize wr.heap.size = m2 at hm2l HM2 hwl hpl
        have HR := hideIt HS.out.rise
        clear hm2 hb2 HS1 HM c0
        go_wp2
        go_loopw [40] (fun iv wr => ∃ k : Nat, k ≤ keys.length ∧ iv = .int .i64 k ∧ Hid (wr.ownsMap Tryz.prog 9 (plainElem Tryz.prog 3) m2 (puts L who (keys.take k)).length (DL (puts L who (keys.take k)))) ∧ Hid ((puts L who (keys.take k)).length ≤ 128) ∧ Hid (Below w.heap.size w wr) ∧ m2 < wr.heap.size) (fun iv _ => keys.length - (intOf iv).toNat)
        case atStart => exact ⟨0, Nat.zero_le _, rfl, HM2, hideIt o4, HB2, hm2l⟩
        case round =>
          clear HM2 HB2 hm2l HB
          obtain ⟨k, hk, rfl, HM, HN, HB, hml⟩ := hrel
          by_cases hlt : k < keys.length
          case pos =>
            obtain ⟨s, hs⟩ : ∃ s, keys[k]? = some s := ⟨keys[k], by simp [hlt]⟩
            obtain ⟨b, off, rfl, _, c1⟩ := KeysIn.at (RowIn.kept HV.out (Kept.of_below HB.out (fun _ h _ => h))) hs
            have htk : puts L who (keys.take (k + 1)) = putL (puts L who (keys.take k)) s who := by
              rw [← puts_snoc, List.take_add_one, hs]; rfl
            have HTK := hideIt htk
            have HPT := hideIt (puts_take HR.out who keys (k + 1))
            have hsz := HZ.out s (List.mem_of_getElem? hs)
            have hf := HF.out
            have hnn := HN.out
            clear hs htk
            go_wp2_with (at_mapUpdate; refine wpList_mapUpdate_own _ rfl _ _ _ 54 rfl 9 3 keyLaw Tryz.underlying54 _ m2 _ _ rfl HM.out (by unfold maxLen; omega) _ _ _ rfl rfl (key_str hsz) _ [] (elem_int hf) ?_)
            intro w3 hown3 hgrow3
            rw [put_DL, ← HTK.out] at hown3
            have HM3 := hideIt (own_tight hown3 (size_DL _))
            have hsz3 := hgrow3.size
            have HB3 := hideIt (HB.out.grown hgrow3 HB.out.size (fun j hj => by cases hj; exact hwl))
            have hln := fun ty => HM3.out.len Tryz.underlying54 ty
            rw [size_DL] at hln
            obtain ⟨M, hM⟩ : ∃ M, (puts L who (keys.take (k + 1))).length = M := ⟨_, rfl⟩
            rw [hM] at hln
            have HMM := hideIt hM
            clear hown3 hgrow3 hM c1
            by_cases hM2 : (128 : Int) < (M : Int)
            · go_wp2_with fail
              refine (lkMany_any w3 p O L (HS.out.next HB3.out)).mono ?_
              rintro e w4 ⟨rfl, rfl⟩
              go_wp2_with fail
              refine (lkwrong_any w4 71 L.length rfl).mono ?_
              rintro e w5 ⟨er, rfl, ho, hb5⟩
              have hbz := HB3.out.size
              have HO := hideIt (ho.mono (A' := (w.heap.size ≤ ·)) (fun k hk _ => by omega))
              have HB5 := hideIt (HB3.out.trans (hb5.mono HB3.out.size))
              clear ho hb5
              go_wp2
              go_ret
              exact ⟨_, L, O, rfl, HS.out.next HB5.out, Move.of_below HB5.out, Or.inl ⟨71, L.length, HO.out, rfl, Or.inr (Or.inr ⟨by omega, HALL.out, by have h1 := HPT.out; have h2 := HMM.out; omega, rfl, rfl⟩)⟩⟩
            · go_wp2
              exact ⟨⟨k + 1, by omega, by go_num, HM3, hideIt (by have := HMM.out; omega), HB3, by omega⟩, by simp [intOf]; omega⟩
          case neg =>
            obtain rfl : k = keys.length := by omega
            rw [List.take_length] at HM HN
            have HSE := hideIt (HS.out.next HB.out)
            obtain ⟨m', c0, f0, hmo, o1, o2, o3, o4'⟩ := HSE.out
            have HF0 := hideIt f0
            have HO := hideIt (And.intro o1 (And.intro o2 o3))
            have hpl2 := o3 p o1
            have HC0 := hideIt c0
            have hpw := HS.out.lt p o1
            clear hmo o1 o2 o3
            go_wp2
            go_ret
            have hpm : m2 ≠ p := by omega
            refine ⟨_, puts L who keys, fun k => O k ∨ k = m2, rfl, ⟨m2, World.cell?_setCell_same _ _ _ HC0.out, ?_, HM.out.setCell (a := ⟨p, 0, none⟩) hpm _, Or.inl HO.out.1, Or.inr rfl, fun k hk => ?_, HN.out⟩, ⟨?_, fun k hk => ?_⟩, Or.inr ⟨rfl, by omega, HALL.out, rfl, HN.out⟩⟩
            · rw [World.frozen?_setCell]; exact HF0.out
            · rw [size_set]
              rcases hk with hk | rfl
              · exact HO.out.2.2 k hk
              · exact hml
            · refine Turn.trans (O1 := fun k => k = p) (Turn.of_below HB.out) ?_ (fun k hk => Or.inl (by rw [hk]; exact HO.out.1))
              exact ⟨rfl, rfl, rfl, by rw [size_set]; exact Nat.le_refl _, fun k _ hk => Below.heap_setCell wr ⟨p, 0, none⟩ (.map (some m2)) k hk⟩
            · rcases hk with hk | rfl
              · exact Or.inl hk
              · exact Or.inr hwl
end Go.Proofs.YtnojbejjlahhkaaGreatDoor
