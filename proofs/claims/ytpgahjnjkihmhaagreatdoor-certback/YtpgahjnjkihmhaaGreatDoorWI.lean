/-
  What is proved here: the Reader's row, of texts and of numbers, over this program.
-/
import Derived.Test.YtpgahjnjkihmhaaGreatDoorWH
import Derived.Maps.AppendAt
namespace Go.Proofs.YtpgahjnjkihmhaaGreatDoor
open Go.RowKit Go.Extern.Stop Go.Stop Go.Extern

def rdMany {α : Type} (one : List UInt8 → Except Int (α × Nat)) : Nat → List UInt8 → Except Int (List α × Nat)
  | 0, _ => .ok ([], 0)
  | n + 1, r => match one r with
    | .error e => .error e
    | .ok (x, c) => match rdMany one n (r.drop c) with
      | .error e => .error e
      | .ok (xs, d) => .ok (x :: xs, c + d)
def rdRow {α : Type} (one : List UInt8 → Except Int (α × Nat)) (r : List UInt8) : Except Int (List α × Nat) :=
  match rdLen 1024 r with
  | .error e => .error e
  | .ok (n, _) => match rdMany one n (r.drop 4) with
    | .error e => .error e
    | .ok (xs, d) => .ok (xs, 4 + d)
/-- what was read ahead -/
def behind {α : Type} (acc : List α) (d : Nat) : Except Int (List α × Nat) → Except Int (List α × Nat)
  | .error e => .error e
  | .ok (ys, d') => .ok (acc ++ ys, d + d')
theorem behind_nil {α : Type} (R : Except Int (List α × Nat)) : behind [] 0 R = R := by
  cases R with
  | error e => rfl
  | ok x => simp [behind]
theorem rdMany_succ {α : Type} (one : List UInt8 → Except Int (α × Nat)) (n : Nat) (r : List UInt8) (acc : List α) (d : Nat) (x : α) (c : Nat) (h : one r = .ok (x, c)) : behind acc d (rdMany one (n + 1) r) = behind (acc ++ [x]) (d + c) (rdMany one n (r.drop c)) := by
  simp only [rdMany, h]
  cases rdMany one n (r.drop c) with
  | error e => rfl
  | ok y => simp [behind, Nat.add_assoc]
theorem rdMany_fail {α : Type} (one : List UInt8 → Except Int (α × Nat)) (n : Nat) (r : List UInt8) (acc : List α) (d : Nat) (e : Int) (h : one r = .error e) : behind acc d (rdMany one (n + 1) r) = .error e := by
  simp only [rdMany, h, behind]
theorem rdLen_ok {r : List UInt8} {most m c : Nat} (h : rdLen most r = .ok (m, c)) : (m ≤ most ∧ c = 4) ∧ 4 ≤ r.length := by
  unfold rdLen at h
  split at h
  · cases h
  · split at h
    · cases h
    · injection h with h; injection h with h1 h2; omega
theorem rdRow_of {α : Type} {one : List UInt8 → Except Int (α × Nat)} {r : List UInt8} {m : Nat} (h : rdLen 1024 r = .ok (m, 4)) : rdRow one r = match behind [] 0 (rdMany one m (r.drop 4)) with | .error e => .error e | .ok (xs, d) => .ok (xs, 4 + d) := by
  unfold rdRow; rw [h, behind_nil]

def isNums (A : Nat → Prop) (w : World) (v : Value) (l : List Int) : Prop := NumsIn w A v l
def isTexts (A : Nat → Prop) (w : World) (v : Value) (l : List (List UInt8)) : Prop := TextsIn w A v l

theorem infoI64 : (Tryz.prog.info? 2).map (fun i => (i.zero, i.size, i.bytes)) = some (some (.int .i64 0), 1, 8) := by kernel_rfl
theorem infoBytes : (Tryz.prog.info? 25).map (fun i => (i.zero, i.size, i.bytes)) = some (some (.slice none 0 0), 1, 24) := by kernel_rfl

theorem own_grown {w w' : World} {B e size n p : Nat} {v : Value} {xs : List Value} (h : w.ownsRow B e size v n xs) (hg : w.grownBy w' (some p)) (hp : p < B) : w'.ownsRow B e size v n xs :=
  h.kept hg (by
    cases hv : v.ownBlock with
    | none => exact Or.inl rfl
    | some g => right; intro e; cases e; have := (h.lt _ hv).1; omega)
theorem grown_then {w w2 w3 : World} {r : Option Nat} (h : w.grownBy w2 r) (hb : Below w.heap.size w2 w3) : w.grownBy w3 r :=
  ⟨hb.os.trans h.os, hb.tape.trans h.tape, hb.output.trans h.output, Nat.le_trans h.size hb.size, fun k hk hr => (hb.block k hk).trans (h.block k hk hr)⟩
/-- the blocks of A that were there -/
def old (A : Nat → Prop) (n : Nat) (b : Nat) : Prop := A b ∧ b < n
theorem ROk.oldOf {w : World} {p : Nat} {A : Nat → Prop} {bs : List UInt8} {k : Nat} (h : ROk w p A bs k) : ROk w p (old A w.heap.size) bs k := h.mono (fun _ a b => ⟨a, b⟩)
theorem ROk.ofOld {w : World} {p n : Nat} {A : Nat → Prop} {bs : List UInt8} {k : Nat} (h : ROk w p (old A n) bs k) : ROk w p A bs k := h.mono (fun _ a _ => a.1)
theorem ROk.past {w w' : World} {p n : Nat} {A : Nat → Prop} {bs : List UInt8} {k : Nat} (h : ROk w p (old A n) bs k) (hb : Below n w w') (hp : p < n) : ROk w' p (old A n) bs k := h.kept (hb.block p hp) (Kept.of_below hb (fun _ a _ => a.2))
theorem numCells_one (l : List Int) : ∀ u ∈ numCells l, u.oneCell' = true := by
  intro u hu; simp [numCells] at hu; obtain ⟨x, _, rfl⟩ := hu; rfl

set_option maxRecDepth 100000 in
set_option maxHeartbeats 4000000 in
theorem rowN_any (p : Nat) (A A2 : Nat → Prop) (bs : List UInt8) (k : Nat) (w : World) (hr : ROk w p A bs k) (hp : ¬ A p) (hA : ∀ k, w.heap.size ≤ k → A2 k) (hl : bs.length ≤ 1000000000000) :
    Calls Tryz.prog 52 #[.pointer (some ⟨p, 0, none⟩), .func (.func 49) #[.pointer (some ⟨p, 0, none⟩)] #[]] w (HowPost w p A bs k (rdRow rdNum (bs.drop k)) (isNums A2)) := by
  obtain ⟨i0, hi, hi2⟩ := Option.map_eq_some_iff.1 infoI64
  obtain ⟨hz0, hz1, hz2⟩ : i0.zero = some (.int .i64 0) ∧ i0.size = 1 ∧ i0.bytes = 8 := by
    simp only [Prod.mk.injEq] at hi2; exact hi2
  have HI := hideIt (And.intro hi (And.intro hz0 (And.intro hz1 hz2)))
  clear hi2 hi hz0 hz1 hz2
  have HL := hideIt (length_any p (old A w.heap.size) bs k 1024 w hr.oldOf (fun h => hp h.1) hl)
  have HP : Hid (¬ old A w.heap.size p) := fun h => hp h.1
  have HA := hideIt hA
  have hk := hr.2.1
  have hpl := hr.lt
  obtain ⟨R, hR⟩ : ∃ R, R = rdLen 1024 (bs.drop k) := ⟨_, rfl⟩
  rw [← hR] at HL
  have HRR := hideIt hR
  clear hr hp hA hR
  match R with
  | .error n =>
    have HE : Hid (rdRow rdNum (bs.drop k) = .error n) := by unfold Hid rdRow; rw [← HRR.out]
    go_enter Tryz.func52, Tryz.ntmps52
    go_wp2_with fail
    refine HL.out.mono ?_
    rintro e w1 ⟨hg, hn, v, k', rfl, hrk⟩
    have H1 := hideIt (And.intro hg hrk)
    have HN := hideIt hn
    clear hg hrk
    go_wp2
    go_ret2
    unfold HowPost
    rw [HE.out]
    exact ⟨H1.out.1, HN.out, _, k', rfl, H1.out.2.ofOld⟩
  | .ok (m, c) =>
    obtain ⟨⟨hm, rfl⟩, h4⟩ := rdLen_ok HRR.out.symm
    have HE := hideIt (rdRow_of (one := rdNum) HRR.out.symm)
    rw [List.length_drop] at h4
    go_enter Tryz.func52, Tryz.ntmps52
    go_wp2_with fail
    refine HL.out.mono ?_
    rintro e w1 ⟨hg, v, rfl, hv, hrk⟩
    have hv2 : v = .int .i64 (m : Int) := hv
    subst hv2
    have H1 := hideIt (And.intro hg hrk)
    have hs1 := hg.size
    clear hg hrk hv
    go_wp2
    go_loopw [8, 20] (fun s i wr => ∃ (j : Nat) (acc : List Int) (d : Nat), j ≤ m ∧ i = .int .i64 j ∧ acc.length = j ∧ Hid (behind [] 0 (rdMany rdNum m ((bs.drop k).drop 4)) = behind acc d (rdMany rdNum (m - j) (bs.drop (k + 4 + d)))) ∧ Hid (ROk wr p (old A w.heap.size) bs (k + 4 + d)) ∧ Hid (wr.ownsRow w.heap.size 2 1 s acc.length (numCells acc)) ∧ Hid (w.grownBy wr (some p))) (fun _ i _ => m - (intOf i).toNat)
    case atStart => exact ⟨0, [], 0, Nat.zero_le _, rfl, rfl, by rw [List.drop_drop]; rfl, H1.out.2, World.ownsRow_nil _ _ _ _, H1.out.1⟩
    case round =>
      obtain ⟨j, acc, d, hj, rfl, hacc, HQ, HR, HO, HG⟩ := hrel
      have hsz := HG.out.size
      by_cases hlt : j < m
      · obtain ⟨q, hq⟩ : ∃ q, m - j = q + 1 := ⟨m - j - 1, by omega⟩
        have HN := hideIt (num_any p (old A w.heap.size) bs (k + 4 + d) wr HR.out HP.out hl)
        obtain ⟨R1, hR1⟩ : ∃ R1, rdNum (bs.drop (k + 4 + d)) = R1 := ⟨_, rfl⟩
        rw [hR1] at HN
        have HR1 := hideIt hR1
        have HQQ := hideIt hq
        clear hR1 hq
        match R1 with
        | .error n =>
          have HE2 : Hid (rdRow rdNum (bs.drop k) = .error n) := by unfold Hid; rw [HE.out, HQ.out, HQQ.out, rdMany_fail _ _ _ _ _ _ HR1.out]
          go_wp2_with fail
          refine HN.out.mono ?_
          rintro e w2 ⟨hg, hn, v, k', rfl, hrk⟩
          have H2 := hideIt (And.intro (grown_trans HG.out hg) hrk)
          have HN2 := hideIt hn
          clear hg hrk
          go_wp2
          go_ret2
          unfold HowPost
          rw [HE2.out]
          exact ⟨H2.out.1, HN2.out, _, k', rfl, H2.out.2.ofOld⟩
        | .ok (x, c) =>
          go_wp2_with fail
          refine HN.out.mono ?_
          rintro e w2 ⟨hg, v, rfl, hv, hrk⟩
          have hv2 : v = .int .i64 x := hv
          subst hv2
          have H2 := hideIt (And.intro (grown_trans HG.out hg) hrk)
          have HO2 := hideIt (own_grown HO.out hg hpl)
          have hs2 := hg.size
          clear hg hrk hv
          go_wp2_with (at_builtin; refine wpList_append_own _ rfl _ _ 51 rfl w.heap.size 2 i0 (.int .i64 0) 1 8 Tryz.underlying51 HI.out.1 HI.out.2.1 HI.out.2.2.1 HI.out.2.2.2 rfl (by decide) _ _ _ rfl (HO2.out.alloc _) ⟨w2.heap.size, 0, none⟩ 1 1 [.int .i64 x] rfl rfl ?c1 ?c2 ?c3 ?c4 ?c5 ?_)
          case c1 => exact cell_one_new _ _ _
          case c2 => intro u hu; simp at hu; subst hu; rfl
          case c3 => unfold maxLen; omega
          case c4 => omega
          case c5 => simp; omega
          · intro v' w3 hown' hgrow _
            have hb3 := (((Below.refl w.heap.size w2).alloc (by omega) _).grown hgrow (by simp; omega) (fun k hk => (HO2.out.lt k hk).1))
            have HO3 := hideIt hown'
            have HRk : Hid (ROk w3 p (old A w.heap.size) bs (k + 4 + (d + c))) := by
              have := H2.out.2.past hb3 hpl; rw [Nat.add_assoc] at this; exact this
            have HG3 := hideIt (grown_then H2.out.1 hb3)
            clear hgrow hown' hb3
            go_wp2
            go_roundw
            case rel =>
              refine ⟨j + 1, acc ++ [x], d + c, by omega, by go_num, by simp [hacc], ?_, HRk.out, ?_, HG3.out⟩
              · unfold Hid; rw [HQ.out, HQQ.out, rdMany_succ _ _ _ _ _ _ _ HR1.out, List.drop_drop]
                have : m - (j + 1) = q := by have := HQQ.out; omega
                rw [this, Nat.add_assoc]
              · unfold Hid; rw [show numCells (acc ++ [x]) = numCells acc ++ [.int .i64 x] by simp [numCells], List.length_append, hacc]; exact HO3.out
            case measure => simp [intOf]; omega
      · have ej : m - j = 0 := by omega
        have HE2 : Hid (rdRow rdNum (bs.drop k) = .ok (acc, 4 + d)) := by unfold Hid; rw [HE.out, HQ.out, ej]; simp [rdMany, behind]
        have HV := hideIt (RowIn.of_own HO.out (fun k hk => HA.out k hk))
        clear ej
        go_wp2
        go_ret2
        unfold HowPost
        rw [HE2.out]
        exact ⟨HG.out, _, rfl, HV.out, by rw [← Nat.add_assoc]; exact HR.out.ofOld⟩
end Go.Proofs.YtpgahjnjkihmhaaGreatDoor
