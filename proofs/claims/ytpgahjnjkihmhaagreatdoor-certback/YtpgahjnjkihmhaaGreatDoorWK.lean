/-
  What is proved here: the Reader's ways to read, and next, which is handed one, over this program.
-/
import Derived.Test.YtpgahjnjkihmhaaGreatDoorWJ
namespace Go.Proofs.YtpgahjnjkihmhaaGreatDoor
open Go.RowKit Go.Extern.Stop Go.Stop Go.Extern

/-- what next leaves -/
def NextPost {α : Type} (w : World) (p : Nat) (A : Nat → Prop) (bs : List UInt8) (k : Nat) (s : ByteArray) (R : Except Int (α × Nat)) (rep : World → Value → α → Prop) (zero : Value) (e : Ending) (w' : World) : Prop :=
  w.grownBy w' (some p) ∧ match R with
    | .error n => e = .returned zero ∧ RBad w' p A n s k
    | .ok (x, c) => ∃ v, e = .returned v ∧ rep w' v x ∧ ROk w' p A bs (k + c)

theorem wrapped_bad {w : World} {p : Nat} {A : Nat → Prop} {bs : List UInt8} {k' : Nat} {n : Int} {s : ByteArray} {k : Int} (h : ROk w p A bs k') (hA : ∀ k, w.heap.size ≤ k → A k) :
    RBad ((w.setCell ⟨p, 2, none⟩ (.iface 121 (.pointer (some ⟨w.heap.size, 0, none⟩)))).alloc (.cells #[.string s, .int .i64 k, .iface 61 (.int .i64 n)] 125)) p A n s k ∧
      w.grownBy ((w.setCell ⟨p, 2, none⟩ (.iface 121 (.pointer (some ⟨w.heap.size, 0, none⟩)))).alloc (.cells #[.string s, .int .i64 k, .iface 61 (.int .i64 n)] 125)) (some p) := by
  have hp := h.lt
  obtain ⟨h0, hl, v, h1, h2, h3, h4⟩ := h
  have hsz : (w.setCell ⟨p, 2, none⟩ (.iface 121 (.pointer (some ⟨w.heap.size, 0, none⟩)))).heap.size = w.heap.size := size_set ..
  refine ⟨⟨_, ?_, w.heap.size, rfl, hA _ (Nat.le_refl _), ?_, ?_, ?_⟩, grown_trans (grown_set (grown_refl w (some p)) 2 _) (World.grownBy_alloc _ _ (some p))⟩
  · rw [World.cell?_alloc_lt _ _ _ (by rw [hsz]; exact hp)]; exact World.cell?_setCell_same _ _ _ h3
  · rw [World.cell?_alloc_at _ _ _ _ hsz.symm]; rfl
  · rw [World.cell?_alloc_at _ _ _ _ hsz.symm]; rfl
  · rw [World.cell?_alloc_at _ _ _ _ hsz.symm]; rfl

set_option maxHeartbeats 4000000 in
theorem nextNs_any (p : Nat) (A : Nat → Prop) (bs : List UInt8) (k : Nat) (s : ByteArray) (q : Addr) (R : Except Int (List Int × Nat)) (rep : World → Value → List Int → Prop) (w : World) (hr : ROk w p A bs k) (hA : ∀ k, w.heap.size ≤ k → A k)
    (hhow : Calls Tryz.prog 51 #[.pointer (some q)] w (HowPost w p A bs k R rep)) :
    Calls Tryz.prog 50 #[.pointer (some ⟨p, 0, none⟩), .string s, .func (.func 51) #[] #[.pointer (some q)]] w (NextPost w p A bs k s R rep (.slice none 0 0)) := by
  have HH := hideIt hhow
  have HA := hideIt hA
  obtain ⟨_, hk, _, h1, h2, h3, _⟩ := hr
  clear hhow hA hk
  match R with
  | .error n =>
    go_enter Tryz.func50, Tryz.ntmps50
    go_wp2_with fail
    refine HH.out.mono ?_
    rintro e w1 ⟨hg, hn, v, k', rfl, hrk⟩
    have H1 := hideIt (And.intro hg hrk)
    have hs := hg.size
    have c2 : w1.cell? ⟨p, 2, none⟩ = some .nilIface := hrk.2.2.choose_spec.2.2.1
    have f2 : w1.frozen? ⟨p, 2, none⟩ = false := hrk.1 2
    have hpl := hrk.lt
    clear hg hrk h1 h2 h3
    go_wp2_with fail
    refine (Of_err n hn w1).mono ?_
    rintro e w2 ⟨rfl, rfl⟩
    go_wp2_with fail
    refine (Wrap_some 61 (.int .i64 n) s k w2).mono ?_
    rintro e w3 ⟨rfl, rfl⟩
    go_wp2
    go_ret
    have h4 := wrapped_bad (n := n) (s := s) (k := k) H1.out.2 (fun j hj => HA.out j (by omega))
    exact ⟨grown_trans H1.out.1 h4.2, rfl, h4.1⟩
  | .ok (x, c) =>
    go_enter Tryz.func50, Tryz.ntmps50
    go_wp2_with fail
    refine HH.out.mono ?_
    rintro e w1 ⟨hg, v, rfl, hv, hrk⟩
    have H1 := hideIt (And.intro hg (And.intro hv hrk))
    clear hg hv hrk
    go_wp2
    go_ret
    exact ⟨H1.out.1, _, rfl, H1.out.2.1, H1.out.2.2⟩
theorem nextNs_bad (p : Nat) (A : Nat → Prop) (n : Int) (s0 : ByteArray) (k : Int) (s : ByteArray) (f : Value) (w : World) (hr : RBad w p A n s0 k) :
    Calls Tryz.prog 50 #[.pointer (some ⟨p, 0, none⟩), .string s, f] w fun e w' => e = .returned (.slice none 0 0) ∧ w' = w := by
  obtain ⟨v, h1, h2⟩ := hr
  obtain ⟨t, x, rfl⟩ := h2.iface
  clear h2
  go_enter Tryz.func50, Tryz.ntmps50
  go_wp2
  go_ret
  exact ⟨rfl, rfl⟩

set_option maxHeartbeats 4000000 in
theorem nextI_any (p : Nat) (A : Nat → Prop) (bs : List UInt8) (k : Nat) (s : ByteArray) (q q2 : Addr) (R : Except Int (Int × Nat)) (rep : World → Value → Int → Prop) (w : World) (hr : ROk w p A bs k) (hA : ∀ k, w.heap.size ≤ k → A k)
    (hhow : Calls Tryz.prog 48 #[.pointer (some q), .pointer (some q2)] w (HowPost w p A bs k R rep)) :
    Calls Tryz.prog 47 #[.pointer (some ⟨p, 0, none⟩), .string s, .func (.func 48) #[] #[.pointer (some q), .pointer (some q2)]] w (NextPost w p A bs k s R rep (.int .i64 0)) := by
  have HH := hideIt hhow
  have HA := hideIt hA
  obtain ⟨_, hk, _, h1, h2, h3, _⟩ := hr
  clear hhow hA hk
  match R with
  | .error n =>
    go_enter Tryz.func47, Tryz.ntmps47
    go_wp2_with fail
    refine HH.out.mono ?_
    rintro e w1 ⟨hg, hn, v, k', rfl, hrk⟩
    have H1 := hideIt (And.intro hg hrk)
    have hs := hg.size
    have c2 : w1.cell? ⟨p, 2, none⟩ = some .nilIface := hrk.2.2.choose_spec.2.2.1
    have f2 : w1.frozen? ⟨p, 2, none⟩ = false := hrk.1 2
    have hpl := hrk.lt
    clear hg hrk h1 h2 h3
    go_wp2_with fail
    refine (Of_err n hn w1).mono ?_
    rintro e w2 ⟨rfl, rfl⟩
    go_wp2_with fail
    refine (Wrap_some 61 (.int .i64 n) s k w2).mono ?_
    rintro e w3 ⟨rfl, rfl⟩
    go_wp2
    go_ret
    have h4 := wrapped_bad (n := n) (s := s) (k := k) H1.out.2 (fun j hj => HA.out j (by omega))
    exact ⟨grown_trans H1.out.1 h4.2, rfl, h4.1⟩
  | .ok (x, c) =>
    go_enter Tryz.func47, Tryz.ntmps47
    go_wp2_with fail
    refine HH.out.mono ?_
    rintro e w1 ⟨hg, v, rfl, hv, hrk⟩
    have H1 := hideIt (And.intro hg (And.intro hv hrk))
    clear hg hv hrk
    go_wp2
    go_ret
    exact ⟨H1.out.1, _, rfl, H1.out.2.1, H1.out.2.2⟩
theorem nextI_bad (p : Nat) (A : Nat → Prop) (n : Int) (s0 : ByteArray) (k : Int) (s : ByteArray) (f : Value) (w : World) (hr : RBad w p A n s0 k) :
    Calls Tryz.prog 47 #[.pointer (some ⟨p, 0, none⟩), .string s, f] w fun e w' => e = .returned (.int .i64 0) ∧ w' = w := by
  obtain ⟨v, h1, h2⟩ := hr
  obtain ⟨t, x, rfl⟩ := h2.iface
  clear h2
  go_enter Tryz.func47, Tryz.ntmps47
  go_wp2
  go_ret
  exact ⟨rfl, rfl⟩
end Go.Proofs.YtpgahjnjkihmhaaGreatDoor
