/-
  What is proved here: Keys of locks; over this program.
-/
import Derived.Test.YtnojbejjlahhkaaGreatDoorHC
import Derived.Maps.AppendAt
namespace Go.Proofs.YtnojbejjlahhkaaGreatDoor
open Go.RowKit Go.Extern.Stop Go.Stop Go.Extern Go.Sort

theorem infoStr : (Tryz.prog.info? 9).map (fun i => (i.zero, i.size, i.bytes)) = some (some (.string ⟨#[]⟩), 1, 16) := by kernel_rfl
def strCells (T : List (List UInt8)) : List Value := T.map encStr

/-- what of somebody's keys has been met -/
def CollW (L : Lk) (who : Int) (left : Lit → Bool) (ss : List (List UInt8)) : Prop := ss.Nodup ∧ ∀ x, x ∈ ss ↔ (holdL L x = some who ∧ left (.string x) = false)
theorem CollW.start (L : Lk) (who : Int) : CollW L who (Maps.has (DL L)) [] := ⟨List.nodup_nil, fun x => by
  rw [has_DL]
  cases holdL L x <;> simp⟩
theorem CollW.yes {L : Lk} {who : Int} {left : Lit → Bool} {ss : List (List UInt8)} (h : CollW L who left ss) {x : List UInt8} (hx : holdL L x = some who) (hlk : left (.string x) = true) : CollW L who (fun z => left z && !z.sameKey (.string x)) (ss ++ [x]) := by
  have hnew : x ∉ ss := fun hm => by have := ((h.2 x).1 hm).2; rw [hlk] at this; cases this
  refine ⟨List.nodup_append.2 ⟨h.1, by simp, fun a ha b hb => by simp at hb; subst hb; exact fun e => hnew (e ▸ ha)⟩, fun y => ?_⟩
  rw [List.mem_append, List.mem_singleton, h.2 y, left_other]
  constructor
  · rintro (⟨a, b⟩ | rfl)
    · exact ⟨a, Or.inl b⟩
    · exact ⟨hx, Or.inr rfl⟩
  · rintro ⟨a, b | b⟩
    · exact Or.inl ⟨a, b⟩
    · exact Or.inr b
theorem CollW.no {L : Lk} {who : Int} {left : Lit → Bool} {ss : List (List UInt8)} (h : CollW L who left ss) {x : List UInt8} {c : Int} (hx : holdL L x = some c) (hc : (c == who) = false) : CollW L who (fun z => left z && !z.sameKey (.string x)) ss := by
  refine ⟨h.1, fun y => ?_⟩
  rw [h.2 y, left_other]
  constructor
  · rintro ⟨a, b⟩; exact ⟨a, Or.inl b⟩
  · rintro ⟨a, b | rfl⟩
    · exact ⟨a, b⟩
    · rw [hx] at a; cases a; simp at hc
theorem SRise.nodup {l : List (List UInt8)} (h : SRise l) : l.Nodup := h.imp fun {a b} hab e => by subst e; exact kLt_irrefl _ hab
theorem CollW.perm {L : Lk} {who : Int} {left : Lit → Bool} {ss : List (List UInt8)} (h : CollW L who left ss) (hr : KRise L) (hl : ∀ kl, left kl = false) : ss.Perm (ownL L who) :=
  (List.perm_ext_iff_of_nodup h.1 (own_rise hr who).nodup).2 fun x => by rw [h.2 x, hl, own_mem hr]; simp

set_option maxRecDepth 100000 in
set_option maxHeartbeats 8000000 in
theorem lkKeys_any (w : World) (p : Nat) (O : Nat → Prop) (L : Lk) (who : Int) (h : LkSt w p O L) :
    Calls Tryz.prog 16 #[.pointer (some ⟨p, 0, none⟩), .int .i64 who] w fun e w' => ∃ v, e = .returned v ∧ w'.ownsRow w.heap.size 9 1 v (ownL L who).length (strCells (ownL L who)) ∧ Below w.heap.size w w' := by
  have HR := hideIt h.rise
  have HFW := hideIt h.few
  obtain ⟨m, c0, _, hm, _⟩ := h
  obtain ⟨i0, hi, hi2⟩ := Option.map_eq_some_iff.1 infoStr
  obtain ⟨hz0, hz1, hz2⟩ : i0.zero = some (.string ⟨#[]⟩) ∧ i0.size = 1 ∧ i0.bytes = 16 := by
    simp only [Prod.mk.injEq] at hi2; exact hi2
  have HI := hideIt (And.intro hi (And.intro hz0 (And.intro hz1 hz2)))
  have hml := hm.lt
  have HM := hideIt hml
  clear hi2 hi hz0 hz1 hz2
  generalize hW : w.heap.size = r0 at hml
  go_enter Tryz.func16, Tryz.ntmps16
  go_wp2_with (first
    | (at_range; refine wpList_range_own _ rfl _ 54 rfl 9 3 keyLaw Tryz.underlying54 _ m _ _ rfl hm ?_; intro w0 hrg0 hg0 hs0)
    | go_in)
  try go_frame
  try rw [hW] at hrg0
  try rw [hW]
  go_loopw [5] (fun v wr => ∃ (left : Lit → Bool) (cnt : Nat) (ss : List (List UInt8)), wr.ranges Tryz.prog 9 (plainElem Tryz.prog 3) m r0 L.length (DL L) left cnt ∧ Hid (ss.length + cnt ≤ L.length) ∧ wr.ownsRow r0 9 1 v ss.length (ss.map encStr) ∧ Hid (CollW L who left ss) ∧ Hid (Below r0 w wr)) (fun _ wr => wr.rangeLeft m r0)
  case atStart =>
    exact ⟨_, _, [], hrg0, hideIt (by rw [size_DL]; simp), World.ownsRow_nil _ _ _ _, hideIt (CollW.start L who), hideIt ((Below.refl _ _).grown hg0 (by omega) (fun j hj => by cases hj))⟩
  case round =>
    obtain ⟨left, cnt, ss, hrg, HN, hrow, HC, HB⟩ := hrel
    go_wp2_with (first
      | (at_next; refine wpList_next_ranges _ rfl _ rfl 9 keyLaw (plainElem Tryz.prog 3) encStr (Value.int .i64) invK invV m r0 L.length _ _ _ rfl hrg ?_ ?_)
      | go_in)
    · intro hc0 hl0
      have HP := hideIt (HC.out.perm HR.out hl0)
      have hse := sort_perm (own_rise HR.out who) HP.out
      have hln := HP.out.length_eq
      have HSE := hideIt hse
      have HLN := hideIt hln
      have hcf := HN.out
      have hfw := HFW.out
      clear hc0 hl0 hrg hse hln
      rcases hrow.2 with ⟨rfl, hn0⟩ | ⟨g, cap, cur, rfl, hbase, hb, h1, h2, h3, h4⟩
      · have hs0' : ss = [] := List.eq_nil_of_length_eq_zero hn0
        subst hs0'
        go_wp2_with fail
        refine (Tryz.slices_Sort_string_none none 0 wr).mono ?_
        rintro e w' ⟨rfl, rfl⟩
        go_wp2
        go_ret
        have he : ownL L who = [] := List.eq_nil_of_length_eq_zero HLN.out.symm
        rw [he]
        exact ⟨_, rfl, World.ownsRow_nil _ _ _ _, HB.out⟩
      · have hH : Holds encStr wr g 0 ss.toArray := holds_of_block hb (by simpa using h4)
        have hgl : g < wr.heap.size := (Array.getElem?_eq_some_iff.1 hb).1
        have HCL := hideIt (Tryz.slices_Sort_string g 0 cap ss wr hH hgl (by omega))
        have HRW : Hid (∀ n os, (grow (putRow encStr (Sort.ahead wr n) g 0 (ss.mergeSort fun x y => decide (x ≤ y)).toArray) os).ownsRow r0 9 1 (.slice (some ⟨g, 0, none⟩) ss.length cap) ss.length ((ss.mergeSort fun x y => decide (x ≤ y)).map encStr)) := hideIt fun n os => ownsRow_sorted (by simp) hbase hb h1 h2 h3
        have HBG := hideIt hbase
        clear hrow hb h1 h2 h3 h4 hH hgl hbase
        go_wp2_with fail
        refine HCL.out.mono ?_
        rintro e w' ⟨rfl, nn, os, hw'⟩
        have HRO := hideIt (HRW.out nn os)
        have HBB : Hid (Below r0 w w') := hideIt (by rw [hw']; exact HB.out.grown (grownBy_sorted _) (by have := HB.out.size; omega) (fun j hj => by cases hj; exact HBG.out))
        rw [← hw'] at HRO
        clear hw' HCL HRW
        go_wp2
        go_ret
        refine ⟨_, rfl, ?_, HBB.out⟩
        have h5 := HRO.out
        rw [show (ss.mergeSort fun x y => decide (x ≤ y)) = ownL L who from HSE.out] at h5
        rw [← HLN.out]
        exact h5
    · intro x c kl yd yp w1 cnt1 hkey hlk hv hat hrg1 hlt hg1 hs1 hen
      obtain ⟨x', ex, rfl, hxl⟩ := Maps.keyOf_str Tryz.underlying9 hkey
      obtain rfl : x = x' := encStr_inj ex
      obtain ⟨c', ec, hy, _⟩ := plainElem_int_inv Tryz.underlying3 hv
      obtain rfl : c = c' := by injection ec
      obtain rfl : yd = .lit (.int .i64 c) := by simpa using (congrArg Prod.fst hy)
      have HH := hideIt (at_hold hat)
      have HLT := hideIt hlt
      have HRG := hideIt hrg
      have HLK := hideIt hlk
      have HB1 := hideIt (HB.out.grown hg1 (by have := HB.out.size; omega) (fun j hj => by cases hj; exact Nat.le_refl _))
      have hrow1 := hrow.kept hg1 (Or.inr (row_ne_iter hrow hrg).symm)
      have hbs := HB1.out.size
      clear hs1 hkey hlk hv hat hlt hrg hy ec ex hg1 hrow
      unfold encStr at hen ⊢
      cases hq : c == who with
      | true =>
        obtain rfl : c = who := by simpa using hq
        have HN2 : Hid (ss.length + 1 + cnt1 ≤ L.length) := hideIt (by have := HN.out; have := HLT.out; omega)
        have HC2 := hideIt (HC.out.yes HH.out HLK.out)
        have HRW := hideIt hrow1
        have hsl : ss.length + 1 ≤ 128 := by have := HN2.out; have := HFW.out; omega
        clear hrow1
        go_wp2_with (at_builtin; refine wpList_append_own_at _ rfl _ _ 31 rfl r0 9 i0 (.string ⟨#[]⟩) 1 16 Tryz.underlying31 HI.out.1 HI.out.2.1 HI.out.2.2.1 HI.out.2.2.2 rfl (by decide) _ _ _ rfl (HRW.out.alloc _) ⟨w1.heap.size, 0, none⟩ 1 1 [encStr x] rfl rfl ?k1 ?k2 ?k3 ?k4 ?k5 ?_)
        case k1 => exact cell_one_new _ _ _
        case k2 => intro u hu; simp at hu; subst hu; rfl
        case k3 => unfold maxLen; omega
        case k4 => omega
        case k5 => simp; omega
        · intro v' w3 hown' hg3 _ hat3
          have hrg3 := (hrg1.alloc (.cells #[.string ⟨x.toArray⟩] 9)).kept hg3 (row_ne_low HRW.out hml) (row_ne_iter HRW.out hrg1)
          have HB3 := hideIt ((HB1.out.alloc (by omega) (.cells #[.string ⟨x.toArray⟩] 9)).grown hg3 (by simp; omega) (fun j hj => (HRW.out.lt j hj).1))
          have HRG3 := hideIt hrg3
          have HOW := hideIt hown'
          have hmap : ss.map encStr ++ [encStr x] = (ss ++ [x]).map encStr := by simp
          rw [hmap] at HOW
          clear hmap hown' hg3 hat3 hrg1 hrg3
          go_wp2
          go_roundw
          case rel => exact ⟨_, cnt1, ss ++ [x], HRG3.out, hideIt (by have := HN2.out; simp; omega), by have := HOW.out; simpa using this, HC2, HB3⟩
          case measure => rw [HRG3.out.left_eq, HRG.out.left_eq]; exact HLT.out
      | false =>
        have HN2 : Hid (ss.length + cnt1 ≤ L.length) := hideIt (by have := HN.out; have := HLT.out; omega)
        have HC2 := hideIt (HC.out.no HH.out hq)
        go_wp2
        go_roundw
        case rel => exact ⟨_, cnt1, ss, hrg1, HN2, hrow1, HC2, HB1⟩
        case measure => rw [hrg1.left_eq, HRG.out.left_eq]; exact HLT.out
end Go.Proofs.YtnojbejjlahhkaaGreatDoor
