/-
  What is proved here: the document's Seals (cohortref04): Signed, Sign, Who, SameInts, over this program.
-/
import Derived.Test.YtpgahjnjkihmhaaGreatDoorSE
import Derived.Test.YtpgahjnjkihmhaaGreatDoorSF
import Derived.BigQuiet
import Derived.Deep.QuietTactic
namespace Go.Proofs.YtpgahjnjkihmhaaGreatDoor
open Go.RowKit Go.Extern.Stop Go.Stop Go.Extern

theorem infoSeal : (Tryz.prog.info? 113).map (fun i => (i.zero, i.size, i.bytes)) = some (some (.agg #[.int .i64 0, .int .i64 0]), 2, 16) := by kernel_rfl

def sealRow (L : List (Int × Int)) : List Value := L.flatMap fun x => [.int .i64 x.1, .int .i64 x.2]
theorem sealRow_append (L : List (Int × Int)) (a b : Int) : sealRow (L ++ [(a, b)]) = sealRow L ++ [.int .i64 a, .int .i64 b] := by simp [sealRow]
theorem sealRow_at {L : List (Int × Int)} {k : Nat} {x : Int × Int} (h : L[k]? = some x) : (sealRow L)[k * 2]? = some (.int .i64 x.1) ∧ (sealRow L)[k * 2 + 1]? = some (.int .i64 x.2) := by
  induction L generalizing k with
  | nil => simp at h
  | cons y r ih =>
    have e : sealRow (y :: r) = .int .i64 y.1 :: .int .i64 y.2 :: sealRow r := by simp [sealRow]
    rw [e]
    cases k with
    | zero => simp at h; subst h; simp
    | succ k =>
      simp at h
      have := ih h
      rw [show (k + 1) * 2 = k * 2 + 1 + 1 by omega]
      simpa using this

/-- the document's Seals at q -/
def DSSt (w : World) (q : Nat) (O : Nat → Prop) (L : List (Int × Int)) : Prop :=
  ∃ v, w.cell? ⟨q, 0, none⟩ = some v ∧ w.frozen? ⟨q, 0, none⟩ = false ∧ w.ownsRow 0 113 2 v L.length (sealRow L) ∧ O q ∧ (∀ g, v.ownBlock = some g → O g ∧ g ≠ q)
theorem DSSt.lt {w : World} {q : Nat} {O : Nat → Prop} {L : List (Int × Int)} (h : DSSt w q O L) : q < w.heap.size := by
  obtain ⟨v, c0, _⟩ := h
  exact lt_of_cell (a := ⟨q, 0, none⟩) c0
theorem DSSt.kept {w w' : World} {q : Nat} {O : Nat → Prop} {L : List (Int × Int)} (h : DSSt w q O L) (hk : Kept O w w') : DSSt w' q O L := by
  have hlt := h.lt
  obtain ⟨v, c0, f0, hr, o1, o2⟩ := h
  have hp := hk q o1 hlt
  exact ⟨v, (World.cell?_of_block (a := ⟨q, 0, none⟩) hp).trans c0, (World.frozen?_of_block (a := ⟨q, 0, none⟩) hp).trans f0, ownsRow_of_block hr (fun g hg => hk g (o2 g hg).1 (ownsRow_lt hr hg)), o1, o2⟩
theorem DSSt.mono {w : World} {q : Nat} {O O' : Nat → Prop} {L : List (Int × Int)} (h : DSSt w q O L) (hO : ∀ k, O k → k < w.heap.size → O' k) : DSSt w q O' L := by
  have hlt := h.lt
  obtain ⟨v, c0, f0, hr, o1, o2⟩ := h
  exact ⟨v, c0, f0, hr, hO q o1 hlt, fun g hg => ⟨hO g (o2 g hg).1 (ownsRow_lt hr hg), (o2 g hg).2⟩⟩
theorem DSSt.len {w : World} {q : Nat} {O : Nat → Prop} {L : List (Int × Int)} (h : DSSt w q O L) : ∃ a cap, w.cell? ⟨q, 0, none⟩ = some (.slice a L.length cap) := by
  obtain ⟨v, c0, _, hr, _⟩ := h
  obtain ⟨a, cap, rfl⟩ := own_form hr
  exact ⟨a, cap, c0⟩
theorem DSSt.new (w : World) : DSSt (w.alloc (.cells #[.slice none 0 0] 69)) w.heap.size (fun k => k = w.heap.size) [] := by
  refine ⟨.slice none 0 0, ?_, World.frozen?_alloc_at _ _ _ _ rfl, World.ownsRow_nil _ 0 _ 2, rfl, fun g hg => by cases hg⟩
  rw [World.cell?_alloc_at _ _ _ _ rfl]; rfl

set_option maxRecDepth 100000 in
set_option maxHeartbeats 8000000 in
theorem dsSigned_any (w : World) (q : Nat) (O : Nat → Prop) (L : List (Int × Int)) (who d : Int) (h : DSSt w q O L) (hl : L.length ≤ 131072) :
    Calls Tryz.prog 56 #[.pointer (some ⟨q, 0, none⟩), .int .i64 who, .int .i64 d] w fun e w' => e = .returned (.bool (decide ((who, d) ∈ L))) ∧ w' = w := by
  obtain ⟨v, c0, f0, hr, o1, o2⟩ := h
  have HR := hideIt hr
  obtain ⟨ar, capr, rfl⟩ := own_form hr
  clear hr o1 o2 f0
  go_enter Tryz.func56, Tryz.ntmps56
  go_wp2
  go_loop [7] (fun i => ∃ k : Nat, k ≤ L.length ∧ i = .int .i64 k ∧ Hid (∀ j, j < k → L[j]? ≠ some (who, d))) (fun i => L.length - (intOf i).toNat)
  case atStart => exact ⟨0, Nat.zero_le _, rfl, fun j hj => by omega⟩
  case round =>
    obtain ⟨k, hk, rfl, HN⟩ := hrel
    by_cases hlt : k < L.length
    · obtain ⟨x, hx⟩ : ∃ x, L[k]? = some x := ⟨L[k], by simp [hlt]⟩
      have HX := hideIt hx
      obtain ⟨g, gc, eg, c1, c2, hgc⟩ : ∃ g cap, Value.slice ar L.length capr = .slice (some ⟨g, 0, none⟩) L.length cap ∧ w.cell? ⟨g, k * 2, none⟩ = some (.int .i64 x.1) ∧ w.cell? ⟨g, k * 2 + 1, none⟩ = some (.int .i64 x.2) ∧ L.length ≤ cap := by
        have hc := HR.out
        rcases HR.out.2 with ⟨e, e2⟩ | ⟨g, cap, cur, e, _, _, hle, _⟩
        · omega
        · have t1 := hc.cells (g := g) (by rw [e]; rfl) (k * 2) _ (sealRow_at hx).1
          have t2 := hc.cells (g := g) (by rw [e]; rfl) (k * 2 + 1) _ (sealRow_at hx).2
          rw [addr_add, Nat.zero_add] at t1 t2
          exact ⟨g, cap, e, t1, t2, hle⟩
      simp only [Value.slice.injEq] at eg
      obtain ⟨rfl, _, rfl⟩ := eg
      clear hx
      obtain ⟨q1, hq1⟩ : ∃ q, (x.1 == who) = q := ⟨_, rfl⟩
      obtain ⟨q2, hq2⟩ : ∃ q, (x.2 == d) = q := ⟨_, rfl⟩
      cases q1
      · have HN' : Hid (∀ j, j < k + 1 → L[j]? ≠ some (who, d)) := fun j hj => by
          by_cases e : j = k
          · subst e; rw [HX.out]; intro h; cases h; simp at hq1
          · exact HN.out j (by omega)
        go_wp2
        exact ⟨⟨k + 1, by omega, by go_num, HN'.out⟩, by simp [intOf]; omega⟩
      · cases q2
        · have HN' : Hid (∀ j, j < k + 1 → L[j]? ≠ some (who, d)) := fun j hj => by
            by_cases e : j = k
            · subst e; rw [HX.out]; intro h; cases h; simp at hq2
            · exact HN.out j (by omega)
          go_wp2
          exact ⟨⟨k + 1, by omega, by go_num, HN'.out⟩, by simp [intOf]; omega⟩
        · have HD : Hid (decide ((who, d) ∈ L) = true) := hideIt (by
            rw [decide_eq_true_eq]
            have e1 : x = (who, d) := Prod.ext (by simpa using hq1) (by simpa using hq2)
            rw [← e1]
            exact List.mem_of_getElem? HX.out)
          go_wp2
          go_ret
          exact ⟨by rw [HD.out]; rfl, rfl⟩
    · have HD : Hid (decide ((who, d) ∈ L) = false) := hideIt (by
        rw [decide_eq_false_iff_not]
        intro hm
        obtain ⟨i, hi⟩ := List.getElem?_of_mem hm
        have := (List.getElem?_eq_some_iff.1 hi).1
        exact HN.out i (by omega) hi)
      go_wp2
      go_ret
      exact ⟨by rw [HD.out]; rfl, rfl⟩

theorem dsSign_bad (w : World) (q : Nat) (who d : Int) (hbad : ¬ okS who d) :
    Calls Tryz.prog 28 #[.pointer (some ⟨q, 0, none⟩), .int .i64 who, .int .i64 d] w fun e w' => e = .returned (.int .i64 1) ∧ w' = w := by
  obtain ⟨g, hg⟩ : ∃ g, grp who = g := ⟨_, rfl⟩
  obtain ⟨c, hc⟩ : ∃ c, cli who = c := ⟨_, rfl⟩
  by_cases hs : smb who
  · have h2 : d < 0 := by
      have : ¬ 0 ≤ d := fun h => hbad ⟨hs, h⟩
      omega
    clear hbad hs
    by_cases h3 : c < 0
    · by_cases h4 : g < 0
      · go_enter Tryz.func28, Tryz.ntmps28
        go_wp2_with fail
        refine (dsGroup_any who w).mono ?_
        rw [hg]
        rintro e w1 ⟨rfl, rfl⟩
        go_wp2_with fail
        refine (dsClient_any who _).mono ?_
        rw [hc]
        rintro e w2 ⟨rfl, rfl⟩
        clear hg hc
        go_wp2
        go_ret
        exact ⟨rfl, rfl⟩
      · go_enter Tryz.func28, Tryz.ntmps28
        go_wp2_with fail
        refine (dsGroup_any who w).mono ?_
        rw [hg]
        rintro e w1 ⟨rfl, rfl⟩
        go_wp2_with fail
        refine (dsClient_any who _).mono ?_
        rw [hc]
        rintro e w2 ⟨rfl, rfl⟩
        clear hg hc
        go_wp2
        go_ret
        exact ⟨rfl, rfl⟩
    · go_enter Tryz.func28, Tryz.ntmps28
      go_wp2_with fail
      refine (dsGroup_any who w).mono ?_
      rw [hg]
      rintro e w1 ⟨rfl, rfl⟩
      go_wp2_with fail
      refine (dsClient_any who _).mono ?_
      rw [hc]
      rintro e w2 ⟨rfl, rfl⟩
      clear hg hc
      go_wp2
      go_ret
      exact ⟨rfl, rfl⟩
  · have h3 : c < 0 := by
      rw [← hc]; unfold cli
      split
      · rename_i h; exact absurd (Or.inr h) hs
      · omega
    have h4 : g < 0 := by
      rw [← hg]; unfold grp
      split
      · rename_i h; exact absurd (Or.inl h) hs
      · omega
    clear hbad hs
    go_enter Tryz.func28, Tryz.ntmps28
    go_wp2_with fail
    refine (dsGroup_any who w).mono ?_
    rw [hg]
    rintro e w1 ⟨rfl, rfl⟩
    go_wp2_with fail
    refine (dsClient_any who _).mono ?_
    rw [hc]
    rintro e w2 ⟨rfl, rfl⟩
    clear hg hc
    go_wp2
    go_ret
    exact ⟨rfl, rfl⟩
end Go.Proofs.YtpgahjnjkihmhaaGreatDoor
