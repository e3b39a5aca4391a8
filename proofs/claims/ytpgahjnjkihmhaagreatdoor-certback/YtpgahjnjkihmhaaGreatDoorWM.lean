/-
  What is proved here: wire's Reader: Num, Int, Text, List, Nums and End, as steps from state to state, over this program.
-/
import Derived.Test.YtpgahjnjkihmhaaGreatDoorWL
namespace Go.Proofs.YtpgahjnjkihmhaaGreatDoor
open Go.RowKit Go.Extern.Stop Go.Stop Go.Extern

/-- a Reader's state: its place, or its first error -/
abbrev RS := Except (Int × ByteArray × Int) Nat
def RSt (w : World) (p : Nat) (A : Nat → Prop) (bs : List UInt8) : RS → Prop
  | .ok k => ROk w p A bs k
  | .error (n, s, j) => RBad w p A n s j
theorem RSt.kept {w w' : World} {p : Nat} {A : Nat → Prop} {bs : List UInt8} {st : RS} (h : RSt w p A bs st) (hp : w'.heap[p]? = w.heap[p]?) (hk : Kept A w w') : RSt w' p A bs st := by
  match st, h with
  | .ok k, h => exact ROk.kept h hp hk
  | .error (n, s, j), h => exact RBad.kept h hp hk
theorem RSt.lt {w : World} {p : Nat} {A : Nat → Prop} {bs : List UInt8} {st : RS} (h : RSt w p A bs st) : p < w.heap.size := by
  match st, h with
  | .ok k, h => exact ROk.lt h
  | .error (n, s, j), h => exact RBad.lt h
theorem RSt.next {w w' : World} {p : Nat} {A : Nat → Prop} {bs : List UInt8} {st : RS} (h : RSt w p A bs st) (hb : Below w.heap.size w w') : RSt w' p A bs st := h.kept (hb.block p h.lt) (Kept.of_all hb)

/-- what is read, and the state behind it -/
def stepR {α : Type} (d : α) (s : ByteArray) (rd : List UInt8 → Except Int (α × Nat)) (bs : List UInt8) : RS → α × RS
  | .error b => (d, .error b)
  | .ok k => match rd (bs.drop k) with
    | .error n => (d, .error (n, s, (k : Int)))
    | .ok (x, c) => (x, .ok (k + c))
def ReadPost {α : Type} (w : World) (p : Nat) (A : Nat → Prop) (bs : List UInt8) (rep : World → Value → α → Prop) (r : α × RS) (e : Ending) (w' : World) : Prop :=
  ∃ v, e = .returned v ∧ rep w' v r.1 ∧ RSt w' p A bs r.2 ∧ w.grownBy w' (some p)
theorem ReadPost.of_next {α : Type} {w w0 : World} {p : Nat} {A : Nat → Prop} {bs : List UInt8} {k : Nat} {s : ByteArray} {rd : List UInt8 → Except Int (α × Nat)} {rep : World → Value → α → Prop} {d : α} {zero : Value} {e : Ending} {w' : World}
    (h : NextPost w p A bs k s (rd (bs.drop k)) rep zero e w') (hd : ∀ w, rep w zero d) (hg : w0.grownBy w (some p)) : ReadPost w0 p A bs rep (stepR d s rd bs (.ok k)) e w' := by
  obtain ⟨h1, h2⟩ := h
  cases hR : rd (bs.drop k) with
  | error n =>
    have e : stepR d s rd bs (.ok k) = (d, .error (n, s, (k : Int))) := by simp only [stepR, hR]
    rw [hR] at h2
    rw [e]
    exact ⟨zero, h2.1, hd _, h2.2, grown_trans hg h1⟩
  | ok x =>
    obtain ⟨x, c⟩ := x
    have e : stepR d s rd bs (.ok k) = (x, .ok (k + c)) := by simp only [stepR, hR]
    rw [hR] at h2
    rw [e]
    obtain ⟨v, a, b, c⟩ := h2
    exact ⟨v, a, b, c, grown_trans hg h1⟩
theorem ReadPost.of_bad {α : Type} {w w0 : World} {p : Nat} {A : Nat → Prop} {bs : List UInt8} {n : Int} {s0 : ByteArray} {j : Int} {s : ByteArray} {rd : List UInt8 → Except Int (α × Nat)} {rep : World → Value → α → Prop} {d : α} {zero : Value} {e : Ending} {w' : World}
    (h : e = .returned zero ∧ w' = w) (hr : RBad w p A n s0 j) (hd : ∀ w, rep w zero d) (hg : w0.grownBy w (some p)) : ReadPost w0 p A bs rep (stepR d s rd bs (.error (n, s0, j))) e w' := by
  obtain ⟨rfl, rfl⟩ := h
  exact ⟨zero, rfl, hd _, hr, hg⟩
theorem TextsIn.nil (w : World) (A : Nat → Prop) : TextsIn w A (.slice none 0 0) [] := ⟨[], rfl, ⟨none, 0, rfl, (fun _ => ⟨rfl, rfl, rfl⟩), fun k x hx => by simp at hx⟩, fun k s u h => by simp at h⟩
theorem NumsIn.nil (w : World) (A : Nat → Prop) : NumsIn w A (.slice none 0 0) [] := ⟨none, 0, rfl, (fun _ => ⟨rfl, rfl, rfl⟩), fun k x hx => by simp [numCells] at hx⟩
def sNum : ByteArray := ⟨#[110, 117, 109]⟩
def sInt : ByteArray := ⟨#[105, 110, 116]⟩
def sText : ByteArray := ⟨#[116, 101, 120, 116]⟩
def sList : ByteArray := ⟨#[108, 105, 115, 116]⟩
def sNums : ByteArray := ⟨#[110, 117, 109, 115]⟩
def sEnd : ByteArray := ⟨#[101, 110, 100]⟩

set_option maxHeartbeats 4000000 in
theorem rNums_any (p : Nat) (A : Nat → Prop) (bs : List UInt8) (st : RS) (w : World) (hr : RSt w p A bs st) (hp : ¬ A p) (hA : ∀ k, w.heap.size ≤ k → A k) (hl : bs.length ≤ 1000000000000) :
    Calls Tryz.prog 19 #[.pointer (some ⟨p, 0, none⟩)] w (ReadPost w p A bs (isNums A) (stepR [] sNums (rdRow rdNum) bs st)) := by
  have hm := hmf
  have HN : Hid (Calls Tryz.prog 50 #[.pointer (some ⟨p, 0, none⟩), .string sNums, .func (.func 51) #[] #[.pointer (some ⟨w.heap.size, 0, none⟩)]] (w.alloc (.cells #[.pointer (some ⟨p, 0, none⟩)] 55)) (ReadPost w p A bs (isNums A) (stepR [] sNums (rdRow rdNum) bs st))) := by
    have hb : Below w.heap.size w (w.alloc (.cells #[.pointer (some ⟨p, 0, none⟩)] 55)) := (Below.refl _ _).alloc (Nat.le_refl _) _
    have hr2 := hr.next hb
    match st, hr2 with
    | .ok k, hr2 =>
      exact (nextNs_any p A bs k _ _ _ (isNums A) _ hr2 (fun k hk => hA k (by have := hb.size; omega)) (nums1_any p _ A A bs k _ hr2 hp (fun k hk => hA k (by have := hb.size; omega)) hl (by rw [World.cell?_alloc_at _ _ _ _ rfl]; rfl))).mono (fun e w' h => ReadPost.of_next h (fun _ => NumsIn.nil _ _) (grown_below hb _))
    | .error (n, s0, j), hr2 =>
      exact (nextNs_bad p A n s0 j _ _ _ hr2).mono (fun e w' h => ReadPost.of_bad h hr2 (fun _ => NumsIn.nil _ _) (grown_below hb _))
  clear hr hp hA
  go_enter Tryz.func19, Tryz.ntmps19
  go_wp2_with fail
  refine HN.out.mono ?_
  rintro e w1 ⟨v, rfl, h1⟩
  have H1 := hideIt h1
  clear h1
  go_wp2
  go_ret
  exact ⟨_, rfl, H1.out⟩

set_option maxHeartbeats 4000000 in
theorem rInt_any (p : Nat) (A : Nat → Prop) (most : Int) (bs : List UInt8) (st : RS) (w : World) (hr : RSt w p A bs st) (hp : ¬ A p) (hA : ∀ k, w.heap.size ≤ k → A k) (hl : bs.length ≤ 1000000000000) :
    Calls Tryz.prog 18 #[.pointer (some ⟨p, 0, none⟩), .int .i64 most] w (ReadPost w p A bs isInt (stepR (0 : Int) sInt (rdInt most) bs st)) := by
  have hm := hmf
  have HN : Hid (Calls Tryz.prog 47 #[.pointer (some ⟨p, 0, none⟩), .string sInt, .func (.func 48) #[] #[.pointer (some ⟨w.heap.size, 0, none⟩), .pointer (some ⟨w.heap.size + 1, 0, none⟩)]] ((w.alloc (.cells #[.pointer (some ⟨p, 0, none⟩)] 55)).alloc (.cells #[.int .i64 most] 3)) (ReadPost w p A bs isInt (stepR (0 : Int) sInt (rdInt most) bs st))) := by
    have hb : Below w.heap.size w ((w.alloc (.cells #[.pointer (some ⟨p, 0, none⟩)] 55)).alloc (.cells #[.int .i64 most] 3)) := ((Below.refl _ _).alloc (Nat.le_refl _) _).alloc (by simp) _
    have hr2 := hr.next hb
    match st, hr2 with
    | .ok k, hr2 =>
      exact (nextI_any p A bs k _ _ _ _ isInt _ hr2 (fun k hk => hA k (by have := hb.size; omega)) (int1_any p _ _ A most bs k _ hr2 hp hl (by rw [World.cell?_alloc_lt _ _ _ (by simp), World.cell?_alloc_at _ _ _ _ rfl]; rfl) (by rw [World.cell?_alloc_at _ _ _ _ (by simp)]; rfl) (by have := hr.lt; simp; omega))).mono (fun e w' h => ReadPost.of_next h (fun _ => rfl) (grown_below hb _))
    | .error (n, s0, j), hr2 =>
      exact (nextI_bad p A n s0 j _ _ _ hr2).mono (fun e w' h => ReadPost.of_bad h hr2 (fun _ => rfl) (grown_below hb _))
  clear hr hp hA
  go_enter Tryz.func18, Tryz.ntmps18
  go_wp2_with fail
  refine HN.out.mono ?_
  rintro e w1 ⟨v, rfl, h1⟩
  have H1 := hideIt h1
  clear h1
  go_wp2
  go_ret
  exact ⟨_, rfl, H1.out⟩

/-- what End answers: the number, the place's name and the place; or nothing -/
def endOf (bs : List UInt8) : RS → Option (Int × ByteArray × Int)
  | .error b => some b
  | .ok k => if k < bs.length then some (22, sEnd, (k : Int)) else none
/-- an error of one step, or none -/
def isErr (A : Nat → Prop) (w : World) (v : Value) : Option (Int × ByteArray × Int) → Prop
  | none => v = .nilIface
  | some (n, s, j) => One w A v n s j

set_option maxHeartbeats 4000000 in
theorem rEnd_any (p : Nat) (A : Nat → Prop) (bs : List UInt8) (st : RS) (w : World) (hr : RSt w p A bs st) (hA : ∀ k, w.heap.size ≤ k → A k) (hl : bs.length ≤ 1000000000000) :
    Calls Tryz.prog 20 #[.pointer (some ⟨p, 0, none⟩)] w fun e w' => ∃ v, e = .returned v ∧ isErr A w' v (endOf bs st) ∧ Below w.heap.size w w' := by
  match st, hr with
  | .error (n, s, j), hr =>
    obtain ⟨v, h1, h2⟩ := hr
    have HO := hideIt h2
    obtain ⟨t, x, rfl⟩ := h2.iface
    clear h2
    go_enter Tryz.func20, Tryz.ntmps20
    go_wp2
    go_ret
    exact ⟨_, rfl, HO.out, Below.refl _ _⟩
  | .ok k, hr =>
    have hpl := ROk.lt hr
    obtain ⟨_, hk, v, h1, h2, h3, h4⟩ := hr
    obtain ⟨a, cap, rfl⟩ : ∃ a cap, v = .slice a bs.length cap := by
      rcases h4 with ⟨rfl, rfl⟩ | ⟨g, cap, rfl, _⟩
      · exact ⟨_, _, rfl⟩
      · exact ⟨_, _, rfl⟩
    clear h4
    by_cases hlt : k < bs.length
    · have HE : Hid (endOf bs (.ok k) = some (22, sEnd, (k : Int))) := if_pos hlt
      have hlt2 : (k : Int) < (bs.length : Int) := by omega
      go_enter Tryz.func20, Tryz.ntmps20
      go_wp2
      go_region
      all_goals
        go_wp2
        go_region_with (first | (go_at_call 53; refine (Of_err 22 (by decide) _).mono ?_; rintro e w1 ⟨rfl, rfl⟩) | (go_at_call 45; refine (Wrap_some 61 (.int .i64 22) _ _ _).mono ?_; rintro e w2 ⟨rfl, rfl⟩))
        all_goals
          go_wp2
          go_ret
          rw [HE.out]
          have hb2 : Below w.heap.size w (w.alloc (.cells #[.string sEnd, .int .i64 k, .iface 61 (.int .i64 22)] 125)) := (Below.refl _ _).alloc (Nat.le_refl _) _
          refine ⟨_, rfl, ⟨w.heap.size, rfl, hA _ (Nat.le_refl _), ?_, ?_, ?_⟩, ⟨hb2.os, hb2.tape, hb2.output, hb2.size, hb2.block⟩⟩
          · show World.cell? (World.alloc _ _) _ = _
            rw [World.cell?_alloc_at _ _ _ _ rfl]; rfl
          · show World.cell? (World.alloc _ _) _ = _
            rw [World.cell?_alloc_at _ _ _ _ rfl]; rfl
          · show World.cell? (World.alloc _ _) _ = _
            rw [World.cell?_alloc_at _ _ _ _ rfl]; rfl
    · have HE : Hid (endOf bs (.ok k) = none) := if_neg hlt
      have hlt2 : ¬ (k : Int) < (bs.length : Int) := by omega
      go_enter Tryz.func20, Tryz.ntmps20
      go_wp2
      go_region
      all_goals
        go_wp2
        go_ret
        rw [HE.out]
        exact ⟨_, rfl, rfl, below_drew w⟩
end Go.Proofs.YtpgahjnjkihmhaaGreatDoor
