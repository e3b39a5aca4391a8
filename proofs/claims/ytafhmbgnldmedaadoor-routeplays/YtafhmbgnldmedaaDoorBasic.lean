/-
  What is proved here: fault's Of and Wrap, over this program; and the statements' own head and great.
-/
import Derived.Test.YtafhmbgnldmedaaDoorText
namespace Go.Proofs.YtafhmbgnldmedaaDoor
open Go.RowKit Go.Extern.Stop Go.Stop Go.Extern

theorem Of_ok (w : World) : Calls Tryd.prog 47 #[.int .i64 0] w fun e w' => e = .returned .nilIface ∧ w' = w := by
  go_enter Tryd.func47, Tryd.ntmps47
  go_wp2
  go_ret
  exact ⟨rfl, rfl⟩
theorem Of_err (n : Int) (hn : (n == 0) = false) (w : World) : Calls Tryd.prog 47 #[.int .i64 n] w fun e w' => e = .returned (.iface 32 (.int .i64 n)) ∧ w' = w := by
  go_enter Tryd.func47, Tryd.ntmps47
  go_wp2
  go_ret
  exact ⟨rfl, rfl⟩
theorem Wrap_nil (s : ByteArray) (k : Int) (w : World) : Calls Tryd.prog 46 #[.nilIface, .string s, .int .i64 k] w fun e w' => e = .returned .nilIface ∧ w' = w := by
  go_enter Tryd.func46, Tryd.ntmps46
  go_wp2
  go_ret
  exact ⟨rfl, rfl⟩
theorem Wrap_some (t : TypeId) (x : Value) (s : ByteArray) (k : Int) (w : World) : Calls Tryd.prog 46 #[.iface t x, .string s, .int .i64 k] w fun e w' => e = .returned (.iface 92 (.pointer (some ⟨w.heap.size, 0, none⟩))) ∧ w' = w.alloc (.cells #[.string s, .int .i64 k, .iface t x] 96) := by
  go_enter Tryd.func46, Tryd.ntmps46
  go_wp2
  go_ret
  exact ⟨rfl, rfl⟩
/-- what is wrapped has one step more, the outermost -/
theorem Wrap_chain (B : Nat) (l : List (ByteArray × Int)) (v : Value) (n : Int) (s : ByteArray) (k : Int) (w : World) (hc : Chain B w n v l) (hB : B ≤ w.heap.size) :
    Calls Tryd.prog 46 #[v, .string s, .int .i64 k] w fun e w' => ∃ v', e = .returned v' ∧ Chain w'.heap.size w' n v' ((s, k) :: l) ∧ Below w.heap.size w w' := by
  obtain ⟨t, x, rfl⟩ := hc.iface
  refine (Wrap_some t x s k w).mono ?_
  rintro e w' ⟨he, rfl⟩
  have hb : Below w.heap.size w (w.alloc (.cells #[.string s, .int .i64 k, .iface t x] 96)) := (Below.refl _ _).alloc (Nat.le_refl _) _
  refine ⟨_, he, .step (by simp) ?_ ?_ ?_ ((hc.kept (hb.mono hB)).up (by simp; omega)), hb⟩ <;> simp

theorem head_text : textL [(⟨#[116, 101, 120, 116]⟩, 7)] ++ errText 21 = [116, 101, 120, 116, 32, 55, 58, 32, 99, 111, 104, 111, 114, 116, 58, 32, 101, 114, 114, 111, 114, 32, 50, 49] := by decide +kernel

/-- the world w, behind w0, holds the error v: the number n, wrapped by l; the library's variables lie as they are laid -/
structure At (w0 : World) (n : Int) (v : Value) (l : List (ByteArray × Int)) (w : World) : Prop where
  b : Below w0.heap.size w0 w
  et : ET w
  pt : PT w
  ch : Chain w.heap.size w n v l
theorem At.next {w0 : World} {n : Int} {v : Value} {l : List (ByteArray × Int)} {w w' : World} (h : At w0 n v l w) (hb : Below w.heap.size w w') : At w0 n v l w' :=
  ⟨h.b.trans (hb.mono h.b.size), h.et.kept hb h.et.lt, h.pt.kept hb h.pt.lt, (h.ch.kept hb).up hb.size⟩
/-- of any world: the number alone -/
theorem At.num {w : World} (n : Int) (hg : ET w) (ht : PT w) : At w n (.iface 32 (.int .i64 n)) [] w := ⟨Below.refl _ _, hg, ht, .base⟩

theorem below_drew (w : World) : Below w.heap.size w w.drew := (Below.refl _ _).drew

section
variable {w0 : World} {n : Int} {v : Value} {l : List (ByteArray × Int)} {w : World}
theorem At.wrap (h : At w0 n v l w) (s : ByteArray) (k : Int) : Calls Tryd.prog 46 #[v, .string s, .int .i64 k] w fun e w' => ∃ t x, e = .returned (.iface t x) ∧ Hid (At w0 n (.iface t x) ((s, k) :: l) w') ∧ Hid (Below w.heap.size w w') := by
  refine (Wrap_chain _ l v n s k w h.ch (Nat.le_refl _)).mono ?_
  rintro e w' ⟨v', he, hc, hb⟩
  obtain ⟨t, x, rfl⟩ := hc.iface
  have h2 := h.next hb
  exact ⟨t, x, he, ⟨h2.b, h2.et, h2.pt, hc⟩, hb⟩
theorem At.code (h : At w0 n v l w) : Calls Tryd.prog 22 #[v] w fun e w' => e = .returned (.int .i64 n) ∧ Hid (At w0 n v l w') ∧ Hid (Below w.heap.size w w') := by
  refine (Code_chain _ l v n w h.ch (Nat.le_refl _) h.et).mono ?_
  rintro e w' ⟨he, hb⟩
  exact ⟨he, h.next hb, hb⟩
theorem At.text (h : At w0 n v l w) (hn : fits n) (hl : l.length ≤ 1000000) (hk : ∀ x ∈ l, fits x.2) (htl : (textL l).length ≤ 1099511627776) :
    Calls Tryd.prog 21 #[v] w fun e w' => e = .returned (.string ⟨(textL l ++ errText n).toArray⟩) ∧ Hid (At w0 n v l w') ∧ Hid (Below w.heap.size w w') := by
  refine (Text_chain _ l v n hn w h.ch h.et h.pt hl hk htl).mono ?_
  rintro e w' ⟨he, hb⟩
  exact ⟨he, h.next hb, hb⟩
theorem At.trail (h : At w0 n v l w) (hl : l.length ≤ 1000000) :
    Calls Tryd.prog 27 #[v] w fun e w' => ∃ a cap, e = .returned (.slice a l.length cap) ∧ Hid (Steps w' w'.heap.size (.slice a l.length cap) l) ∧ Hid (At w0 n v l w') ∧ Hid (Below w.heap.size w w') := by
  refine (Trail_chain _ l v n w h.ch h.et hl).mono ?_
  rintro e w' ⟨sl, he, ho, hb⟩
  have hst := Steps.of_own ho
  have hs2 := hst
  obtain ⟨a, cap, rfl, _⟩ := hs2
  exact ⟨a, cap, he, hst, h.next hb, hb⟩
end

end Go.Proofs.YtafhmbgnldmedaaDoor
