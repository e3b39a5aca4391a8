/-
  What is proved here: the statement's function cohortlaw01.FaultTells returns true at OK, over this program. Conditions: the steps lie in memory as slices of them do; the library's variables lie as they are laid.
-/
import Derived.Test.YtaageigehobdmaaDoorLawTells
namespace Go.Proofs.YtaageigehobdmaaDoor
open Go.RowKit Go.Extern.Stop Go.Stop Go.Extern

theorem Wrap_nil_kept (s : ByteArray) (k : Int) (w : World) : Calls Tryd.prog 11 #[.nilIface, .string s, .int .i64 k] w fun e w' => e = .returned .nilIface ∧ Hid (Below w.heap.size w w') := by
  refine (Wrap_nil s k w).mono ?_
  rintro e w' ⟨he, rfl⟩
  exact ⟨he, Below.refl _ _⟩

set_option maxHeartbeats 8000000 in
theorem law_tells_zero (B : Nat) (sl : Value) (l : List (ByteArray × Int)) (w : World) (hs : Steps w B sl l) (hB : B ≤ w.heap.size) (hlen : l.length ≤ maxLen) (hsz : ∀ x ∈ l, x.1.size ≤ maxLen) (hg : ET w) (ht : PT w) :
    Calls Tryd.prog 3 #[.int .i64 0, sl] w fun e w' => e = .returned (.bool true) ∧ Below w.heap.size w w' := by
  have HH := hideIt (head_true w hg ht)
  have HS := hideIt hs
  have HZ := hideIt (And.intro hlen hsz)
  have HE := hideIt (And.intro hg ht)
  obtain ⟨a, cap, rfl, hs0⟩ := hs
  obtain ⟨i0, hi, hi2⟩ := Option.map_eq_some_iff.1 infoStep
  obtain ⟨hz0, hz1, hz2⟩ : i0.zero = some (.agg #[.string ⟨#[]⟩, .int .i64 0]) ∧ i0.size = 2 ∧ i0.bytes = 24 := by
    simp only [Prod.mk.injEq] at hi2; exact hi2
  have HI := hideIt (And.intro hi (And.intro hz0 (And.intro hz1 hz2)))
  unfold maxLen at hlen
  clear hs0 hsz hg ht hi hi2 hz0 hz1 hz2
  go_enter Tryd.func3, Tryd.ntmps3
  go_wp2_with fail
  refine HH.out.mono ?_
  rintro e w1 ⟨rfl, b1⟩
  have HB1 := hideIt b1
  have HS1 := hideIt ((HS.out.kept (b1.mono hB)).up (Nat.le_trans hB b1.size))
  clear b1 HH HS HE
  go_wp2_with fail
  refine (great_any _ _ l w1 HS1.out HZ.out.1 HZ.out.2).mono ?_
  rintro e w2 ⟨⟨g, rfl, hgr⟩, rfl⟩
  cases g
  · have hwt : weight l < 20000 := hgr rfl
    have hl2 : l.length ≤ 2000 := by have := weight_len l; omega
    clear hgr hwt hlen
    go_wp2_with fail
    refine (Of_ok w2).mono ?_
    rintro e w3 ⟨rfl, rfl⟩
    go_wp2
    go_loopw [6, 7, 8] (fun v tv i wr => ∃ (k : Nat), k ≤ l.length ∧ v = .nilIface ∧ i = .int .i64 k ∧ Hid (Below w3.heap.size w3 wr) ∧ Hid (TrailAt w3.heap.size l k tv wr)) (fun _ _ i _ => l.length - (intOf i).toNat)
    case atStart => exact ⟨0, Nat.zero_le _, rfl, rfl, Below.refl _ _, World.ownsRow_nil _ _ _ _, fun _ => rfl⟩
    case round =>
      obtain ⟨k, hk, rfl, rfl, HX, HT⟩ := hrel
      by_cases hlt : k < l.length
      · obtain ⟨x, hx⟩ : ∃ x, l[k]? = some x := ⟨l[k], by simp [hlt]⟩
        obtain ⟨a', cap', e1, hst⟩ := HS1.out.kept HX.out
        cases e1
        obtain ⟨b, off, rfl, hbb, c0, c1⟩ := hst k x hx
        have HR := hideIt (take_rev hx)
        have HXd : Hid (Below w3.heap.size w3 wr.drew) := HX.out.drew
        have HTd := hideIt (HT.out.next (below_drew wr))
        have hbr : b < wr.heap.size := lt_of_cell c0
        clear hst hx HT HX
        go_wp2
        go_region_with (go_at_call 11; refine (Wrap_nil_kept _ _ _).mono ?_; rintro e w4 ⟨rfl, HB4⟩; have d0 : w4.cell? ⟨b, off + k * 2, none⟩ = some (.string x.1) := (HB4.out.cell (p := ⟨b, off + k * 2, none⟩) hbr).trans c0; have d1 : w4.cell? ⟨b, off + k * 2 + 1, none⟩ = some (.int .i64 x.2) := (HB4.out.cell (p := ⟨b, off + k * 2 + 1, none⟩) hbr).trans c1)
        all_goals
          have HT4 := hideIt (HTd.out.next HB4.out)
          have HX4 := hideIt (HXd.out.trans (HB4.out.mono HXd.out.size))
          have hw34 : w3.heap.size ≤ w4.heap.size := HX4.out.size
          clear c0 c1 HTd HXd HB4
          by_cases hk0 : k = 0
          · have hu := HT4.out.2 hk0
            subst hu
            have HK0 := hideIt hk0
            clear hk0
            go_wp2_with (at_builtin; refine wpList_append_own_none rfl _ _ 23 rfl w3.heap.size 31 i0 2 Tryd.underlying23 HI.out.1 _ 1 [.string x.1, .int .i64 x.2] rfl (own_one w4 _ hw34 x.1 x.2) rfl ?_)
            go_wp2
            exact ⟨⟨k + 1, by omega, rfl, by go_num, HX4.out.alloc hw34 _, by unfold TrailAt; rw [HR.out, HK0.out]; exact ⟨own_one w4 _ hw34 x.1 x.2, fun e => by omega⟩⟩, by simp [intOf]; omega⟩
          · obtain ⟨gb, cap2, hu, hgl, hcells⟩ := HT4.out.some (by omega)
            subst hu
            have HC := hideIt hcells
            have hkp : 0 < k := by omega
            clear hcells hk0
            go_wp2_with (at_builtin; refine wpList_append_own _ rfl _ _ 23 rfl w3.heap.size 31 i0 (.agg #[.string ⟨#[]⟩, .int .i64 0]) 2 24 Tryd.underlying23 HI.out.1 HI.out.2.1 HI.out.2.2.1 HI.out.2.2.2 rfl (by decide) _ 1 [.string x.1, .int .i64 x.2] rfl (own_one w4 _ hw34 x.1 x.2) ⟨gb, 0, none⟩ k cap2 (stepCells (l.take k).reverse) rfl ?c0 ?c1 ?c2 ?c3 ?c4 ?c5 ?_)
            case c0 => rw [stepCells_length]; simp; omega
            case c1 => intro j u hj; rw [World.cell?_alloc_lt _ _ _ (by rw [add_eq]; exact hgl)]; exact HC.out j u hj
            case c2 => exact stepCells_one _
            case c3 => unfold maxLen; omega
            case c4 => omega
            case c5 => simp; omega
            · intro v' w5 hown' hgrow _
              have HB5 := hideIt (((Below.refl w4.heap.size w4).alloc (Nat.le_refl _) _).grown hgrow (by simp) (fun j hj => by simp [Value.ownBlock] at hj; omega))
              have HO5 := hideIt hown'
              clear hgrow hown'
              go_wp2
              exact ⟨⟨k + 1, by omega, rfl, by go_num, HX4.out.trans (HB5.out.mono hw34), by unfold TrailAt; rw [HR.out]; exact ⟨by rw [Nat.add_comm]; exact HO5.out, fun e => by omega⟩⟩, by simp [intOf]; omega⟩
      · go_wp2_with fail
        refine (Trail_nil wr).mono ?_
        rintro e w4 ⟨rfl, b4⟩
        have HB4 := hideIt (HX.out.trans (b4.mono HX.out.size))
        clear b4
        go_wp2_with fail
        refine (Text_nil w4).mono ?_
        rintro e w5 ⟨rfl, b5⟩
        have HB5 := hideIt (HB4.out.trans (b5.mono HB4.out.size))
        clear b5
        go_wp2_with fail
        refine (Code_nil w5).mono ?_
        rintro e w6 ⟨rfl, b6⟩
        have HB6 := hideIt (HB5.out.trans (b6.mono HB5.out.size))
        clear b6
        go_wp2
        go_ret
        exact ⟨rfl, HB1.out.trans (HB6.out.mono HB1.out.size)⟩
  · go_wp2
    go_ret
    exact ⟨rfl, HB1.out⟩

theorem law_tells (B : Nat) (sl : Value) (l : List (ByteArray × Int)) (n : Int) (hfn : fits n) (w : World) (hs : Steps w B sl l) (hB : B ≤ w.heap.size) (hlen : l.length ≤ maxLen) (hsz : ∀ x ∈ l, x.1.size ≤ maxLen) (hkf : ∀ x ∈ l, fits x.2) (hg : ET w) (ht : PT w) :
    Calls Tryd.prog 3 #[.int .i64 n, sl] w fun e w' => e = .returned (.bool true) ∧ Below w.heap.size w w' := by
  by_cases hn : n = 0
  · subst hn; exact law_tells_zero B sl l w hs hB hlen hsz hg ht
  · exact law_tells_some B sl l n (by simpa using hn) hfn w hs hB hlen hsz hkf hg ht
end Go.Proofs.YtaageigehobdmaaDoor
