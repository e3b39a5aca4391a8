/-
  What is proved here: the statement's function cohortlaw01.FaultTells returns true, over this program. Conditions: the steps lie in memory as slices of them do; the library's variables lie as they are laid.
-/
import Derived.Test.YtaageigehobdmaaDoorRText
import Derived.Laws.AppendOwnNone
namespace Go.Proofs.YtaageigehobdmaaDoor
open Go.RowKit Go.Extern.Stop Go.Stop Go.Extern

/-- a slice of one step, just made -/
theorem own_one (w : World) (B : Nat) (hB : B ≤ w.heap.size) (s : ByteArray) (k : Int) : (w.alloc (.cells #[.string s, .int .i64 k] 31)).ownsRow B 31 2 (.slice (some ⟨w.heap.size, 0, none⟩) 1 1) 1 [.string s, .int .i64 k] :=
  ⟨by simp, Or.inr ⟨w.heap.size, 1, #[.string s, .int .i64 k], rfl, hB, heap_alloc_new w _, Nat.le_refl _, by decide, by simp, by simp⟩⟩

/-- what the statement keeps beside the error: the steps so far, the last one first -/
def TrailAt (B : Nat) (l : List (ByteArray × Int)) (k : Nat) (tv : Value) (wr : World) : Prop :=
  wr.ownsRow B 31 2 tv k (stepCells (l.take k).reverse) ∧ (k = 0 → tv = .slice none 0 0)

theorem TrailAt.next {B : Nat} {l : List (ByteArray × Int)} {k : Nat} {tv : Value} {w w' : World} (h : TrailAt B l k tv w) (hb : Below w.heap.size w w') : TrailAt B l k tv w' := ⟨own_kept h.1 hb, h.2⟩

theorem stepCells_length (l : List (ByteArray × Int)) : (stepCells l).length = l.length * 2 := by
  induction l with
  | nil => rfl
  | cons x r ih => obtain ⟨s, k⟩ := x; simp [stepCells, ih]; omega
theorem stepCells_one (l : List (ByteArray × Int)) : ∀ u ∈ stepCells l, u.oneCell' = true := by
  induction l with
  | nil => intro u hu; cases hu
  | cons x r ih =>
    obtain ⟨s, k⟩ := x
    intro u hu
    simp only [stepCells, List.mem_cons] at hu
    rcases hu with rfl | rfl | hu
    · rfl
    · rfl
    · exact ih u hu

/-- taken apart, where there is one at least -/
theorem TrailAt.some {B : Nat} {l : List (ByteArray × Int)} {k : Nat} {tv : Value} {w : World} (h : TrailAt B l k tv w) (hk : 0 < k) :
    ∃ g cap, tv = .slice (some ⟨g, 0, none⟩) k cap ∧ g < w.heap.size ∧ ∀ j u, (stepCells (l.take k).reverse)[j]? = some u → w.cell? ((⟨g, 0, none⟩ : Addr).add j) = some u := by
  have hc := h.1
  obtain ⟨h1, h2⟩ := h.1
  rcases h2 with ⟨rfl, h3⟩ | ⟨g, cap, cur, rfl, hg, hh, r⟩
  · omega
  · exact ⟨g, cap, rfl, (Array.getElem?_eq_some_iff.1 hh).1, hc.cells (g := g) rfl⟩

theorem weight_rev (l : List (ByteArray × Int)) : weight l.reverse = weight l := by
  induction l with
  | nil => rfl
  | cons x r ih => simp [weight_append, weight, ih]; omega

set_option maxHeartbeats 8000000 in
theorem law_tells_some (B : Nat) (sl : Value) (l : List (ByteArray × Int)) (n : Int) (hn : (n == 0) = false) (hfn : fits n) (w : World) (hs : Steps w B sl l) (hB : B ≤ w.heap.size) (hlen : l.length ≤ maxLen) (hsz : ∀ x ∈ l, x.1.size ≤ maxLen) (hkf : ∀ x ∈ l, fits x.2) (hg : ET w) (ht : PT w) :
    Calls Tryd.prog 3 #[.int .i64 n, sl] w fun e w' => e = .returned (.bool true) ∧ Below w.heap.size w w' := by
  have HH := hideIt (head_true w hg ht)
  have HS := hideIt hs
  have HZ := hideIt (And.intro hlen hsz)
  have HE := hideIt (And.intro hg ht)
  have HN := hideIt hn
  have HFN := hideIt hfn
  have HKF := hideIt hkf
  obtain ⟨a, cap, rfl, hs0⟩ := hs
  obtain ⟨i0, hi, hi2⟩ := Option.map_eq_some_iff.1 infoStep
  obtain ⟨hz0, hz1, hz2⟩ : i0.zero = some (.agg #[.string ⟨#[]⟩, .int .i64 0]) ∧ i0.size = 2 ∧ i0.bytes = 24 := by
    simp only [Prod.mk.injEq] at hi2; exact hi2
  have HI := hideIt (And.intro hi (And.intro hz0 (And.intro hz1 hz2)))
  unfold maxLen at hlen
  clear hs0 hsz hg ht hn hfn hkf hi hi2 hz0 hz1 hz2
  go_enter Tryd.func3, Tryd.ntmps3
  go_wp2_with fail
  refine HH.out.mono ?_
  rintro e w1 ⟨rfl, b1⟩
  have HB1 := hideIt b1
  have HS1 := hideIt ((HS.out.kept (b1.mono hB)).up (Nat.le_trans hB b1.size))
  have HA1 := hideIt (At.num n (HE.out.1.kept b1 HE.out.1.lt) (HE.out.2.kept b1 HE.out.2.lt))
  clear b1 HH HS HE
  go_wp2_with fail
  refine (great_any _ _ l w1 HS1.out HZ.out.1 HZ.out.2).mono ?_
  rintro e w2 ⟨⟨g, rfl, hgr⟩, rfl⟩
  cases g
  · have hwt : weight l < 20000 := hgr rfl
    have hl2 : l.length ≤ 2000 := by have := weight_len l; omega
    have HTL := hideIt (weight_text l hwt HKF.out)
    have HWT := hideIt hwt
    clear hgr hwt hlen
    go_wp2_with fail
    refine (Of_err n HN.out w2).mono ?_
    rintro e w3 ⟨rfl, rfl⟩
    go_wp2
    go_loopw [6, 7, 8] (fun v tv i wr => ∃ (k : Nat) (ty : TypeId) (y : Value), k ≤ l.length ∧ v = .iface ty y ∧ i = .int .i64 k ∧ Hid (At w3 n (.iface ty y) (l.take k).reverse wr) ∧ Hid (TrailAt w3.heap.size l k tv wr)) (fun _ _ i _ => l.length - (intOf i).toNat)
    case atStart => exact ⟨0, _, _, Nat.zero_le _, rfl, rfl, HA1.out, World.ownsRow_nil _ _ _ _, fun _ => rfl⟩
    case round =>
      obtain ⟨k, ty, y, hk, rfl, rfl, HX, HT⟩ := hrel
      by_cases hlt : k < l.length
      · obtain ⟨x, hx⟩ : ∃ x, l[k]? = some x := ⟨l[k], by simp [hlt]⟩
        obtain ⟨a', cap', e1, hst⟩ := HS1.out.kept HX.out.b
        cases e1
        obtain ⟨b, off, rfl, hbb, c0, c1⟩ := hst k x hx
        have HR := hideIt (take_rev hx)
        have HXd := hideIt (HX.out.next (below_drew wr))
        have HTd := hideIt (HT.out.next (below_drew wr))
        have hbr : b < wr.heap.size := lt_of_cell c0
        clear hst hx HT HX
        go_wp2
        go_region_with (go_at_call 11; refine (HXd.out.wrap _ _).mono ?_; rintro e w4 ⟨ty2, y2, rfl, HX4, HB4⟩; have d0 : w4.cell? ⟨b, off + k * 2, none⟩ = some (.string x.1) := (HB4.out.cell (p := ⟨b, off + k * 2, none⟩) hbr).trans c0; have d1 : w4.cell? ⟨b, off + k * 2 + 1, none⟩ = some (.int .i64 x.2) := (HB4.out.cell (p := ⟨b, off + k * 2 + 1, none⟩) hbr).trans c1)
        all_goals
          have HT4 := hideIt (HTd.out.next HB4.out)
          have hw34 : w3.heap.size ≤ w4.heap.size := HX4.out.b.size
          clear c0 c1 HTd HXd HB4
          by_cases hk0 : k = 0
          · have hu := HT4.out.2 hk0
            subst hu
            have HK0 := hideIt hk0
            clear hk0
            go_wp2_with (at_builtin; refine wpList_append_own_none rfl _ _ 23 rfl w3.heap.size 31 i0 2 Tryd.underlying23 HI.out.1 _ 1 [.string x.1, .int .i64 x.2] rfl (own_one w4 _ hw34 x.1 x.2) rfl ?_)
            go_wp2
            exact ⟨⟨k + 1, ty2, y2, by omega, rfl, by go_num, by rw [HR.out]; exact HX4.out.next ((Below.refl _ _).alloc (Nat.le_refl _) _), by unfold TrailAt; rw [HR.out, HK0.out]; exact ⟨own_one w4 _ hw34 x.1 x.2, fun e => by omega⟩⟩, by simp [intOf]; omega⟩
          · obtain ⟨gb, cap2, hu, hgl, hcells⟩ := HT4.out.some (by omega)
            subst hu
            have HC := hideIt hcells
            have hkp : 0 < k := by omega
            clear hcells hk0
            go_wp2_with (at_builtin; refine wpList_append_own _ rfl _ _ 23 rfl w3.heap.size 31 i0 (.agg #[.string ⟨#[]⟩, .int .i64 0]) 2 24 Tryd.underlying23 HI.out.1 HI.out.2.1 HI.out.2.2.1 HI.out.2.2.2 rfl (by decide) _ 1 [.string x.1, .int .i64 x.2] rfl (own_one w4 _ hw34 x.1 x.2) ⟨gb, 0, none⟩ k cap2 (stepCells (l.take k).reverse) rfl ?c0 ?c1 ?c2 ?c3 ?c4 ?c5 ?_)
            case c0 => rw [stepCells_length]; simp; omega
            case c1 => intro j u hj; rw [World.cell?_alloc_lt _ _ _ (by rw [add_eq]; exact hgl)]; exact HC.out j u hj
            case c2 => exact stepCells_one _
            case c3 => unfold maxLen; omega
            case c4 => omega
            case c5 => simp; omega
            · intro v' w5 hown' hgrow _
              have HB5 := hideIt (((Below.refl w4.heap.size w4).alloc (Nat.le_refl _) _).grown hgrow (by simp) (fun j hj => by simp [Value.ownBlock] at hj; omega))
              have HO5 := hideIt hown'
              clear hgrow hown'
              go_wp2
              exact ⟨⟨k + 1, ty2, y2, by omega, rfl, by go_num, by rw [HR.out]; exact HX4.out.next HB5.out, by unfold TrailAt; rw [HR.out]; exact ⟨by rw [Nat.add_comm]; exact HO5.out, fun e => by omega⟩⟩, by simp [intOf]; omega⟩
      · have ek : k = l.length := by omega
        have HX2 : Hid (At w3 n (.iface ty y) l.reverse wr) := by
          have := HX.out; rw [ek, List.take_length] at this; exact this
        have HT2 : Hid (Steps wr wr.heap.size u7 l.reverse) := by
          have h1 := HT.out.1
          rw [ek, List.take_length] at h1
          exact Steps.of_own (by rw [List.length_reverse]; exact h1)
        have HLR : Hid (l.reverse.length ≤ 1000000 ∧ (∀ z ∈ l.reverse, fits z.2) ∧ (textL l.reverse).length ≤ 1099511627776) := by
          have hkr : ∀ z ∈ l.reverse, fits z.2 := fun z hz => HKF.out z (by simpa using hz)
          refine ⟨by simp; omega, hkr, ?_⟩
          have hwr : weight l.reverse < 20000 := by rw [weight_rev]; exact HWT.out
          have := weight_text l.reverse hwr hkr
          have h2 := weight_len l.reverse
          simp at this h2
          omega
        clear HX HT ek
        generalize l.reverse = r at HX2 HT2 HLR
        have hnn : (n == n) = true := beq_self_eq_true n
        have hn0 := HN.out
        obtain ⟨a7, cap7, e7, _⟩ := HT2.out
        subst e7
        go_wp2_with fail
        refine HX2.out.code.mono ?_
        rintro e w4 ⟨rfl, H4, HB4⟩
        go_wp2_with fail
        refine (H4.out.trail HLR.out.1).mono ?_
        rintro e w5 ⟨a5, cap5, rfl, HS5, H5, HB5⟩
        have HT5 := hideIt (((HT2.out.kept HB4.out).up HB4.out.size |>.kept HB5.out).up HB5.out.size)
        go_wp2_with fail
        refine (Same_true _ _ _ _ r w5 HS5.out HT5.out HLR.out.1).mono ?_
        rintro e w6 ⟨rfl, b6⟩
        have H6 := hideIt (H5.out.next b6)
        have HT6 := hideIt ((HT5.out.kept b6).up b6.size)
        clear b6
        go_wp2_with fail
        refine (H6.out.text HFN.out HLR.out.1 HLR.out.2.1 HLR.out.2.2).mono ?_
        rintro e w7 ⟨he, H7, HB7⟩
        obtain ⟨S, hS⟩ : ∃ S, S = (⟨(textL r ++ errText n).toArray⟩ : ByteArray) := ⟨_, rfl⟩
        rw [← hS] at he
        subst he
        have HSS := hideIt hS
        clear hS
        have HT7 := hideIt ((HT6.out.kept HB7.out).up HB7.out.size)
        go_wp2_with fail
        refine (RText_any _ _ r n HN.out HFN.out w7 HT7.out (Nat.le_refl _) H7.out.pt HLR.out.1 HLR.out.2.1 HLR.out.2.2).mono ?_
        rintro e w8 ⟨he, b8⟩
        rw [← HSS.out] at he
        subst he
        have H8 := hideIt (H7.out.next b8)
        clear b8
        go_wp2
        go_ret
        exact ⟨by simp, HB1.out.trans (H8.out.b.mono HB1.out.size)⟩
  · go_wp2
    go_ret
    exact ⟨rfl, HB1.out⟩
end Go.Proofs.YtaageigehobdmaaDoor
