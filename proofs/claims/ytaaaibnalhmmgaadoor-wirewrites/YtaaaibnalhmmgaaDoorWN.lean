/-
  What is proved here: the statements' own head (cohortlaw02), over this program.
-/
import Derived.Test.YtaaaibnalhmmgaaDoorWM
import Derived.Test.YtaaaibnalhmmgaaDoorRText
import Derived.Laws.IdiomStrings
import Derived.Laws.BytesArg
import Derived.Lib.SmallJoins
namespace Go.Proofs.YtaaaibnalhmmgaaDoor
open Go.RowKit Go.Extern.Stop Go.Stop Go.Extern

/-- the world w lies behind w0, whose library's variables lie as they are laid -/
def Env (w0 w : World) : Prop := Below w0.heap.size w0 w ∧ ET w0 ∧ PT w0
theorem Env.next {w0 w w' : World} (h : Env w0 w) (hb : Below w.heap.size w w') : Env w0 w' := ⟨h.1.trans (hb.mono h.1.size), h.2⟩
theorem Env.grown {w0 w w' : World} {p : Nat} (h : Env w0 w) (hg : w.grownBy w' (some p)) (hp : w0.heap.size ≤ p) : Env w0 w' := ⟨h.1.trans (below_grown_at hg hp h.1.size), h.2⟩
theorem Env.et {w0 w : World} (h : Env w0 w) : ET w := h.2.1.kept h.1 h.2.1.lt
theorem Env.pt {w0 w : World} (h : Env w0 w) : PT w := h.2.2.kept h.1 h.2.2.lt
theorem Env.at {w0 w : World} (h : Env w0 w) {A : Nat → Prop} {v : Value} {n : Int} {s : ByteArray} {k : Int} (ho : One w A v n s k) : At w n v [(s, k)] w := ⟨Below.refl _ _, h.et, h.pt, ho.chain⟩

theorem fresh_writer (w : World) : WSt (w.alloc (.cells #[.pointer none, .int .i64 0, .nilIface] 30)) w.heap.size (fun k => k ≠ w.heap.size) ([], false) :=
  ⟨fun j => World.frozen?_alloc_at _ _ _ _ rfl, none, [], by rw [World.cell?_alloc_at _ _ _ _ rfl]; rfl, by rw [World.cell?_alloc_at _ _ _ _ rfl]; rfl, by rw [World.cell?_alloc_at _ _ _ _ rfl]; rfl, rfl, rfl⟩
theorem BytesIn.str {w : World} {A : Nat → Prop} {v : Value} {l : List UInt8} (h : BytesIn w A v l) : (convert 32 9 v).run Tryd.prog w = .ok (.string ⟨l.toArray⟩) w := by
  obtain ⟨a, cap, rfl, hnil⟩ := h.form
  cases a with
  | none => obtain ⟨rfl, rfl⟩ := hnil rfl; exact run_convert_bytes_nil (P := Tryd.prog) w 32 5 Tryd.underlying32 Tryd.underlying5 0 0 9 Tryd.underlying9
  | some ad =>
    refine run_convert_bytes_back (P := Tryd.prog) w 32 9 5 ad cap l Tryd.underlying32 Tryd.underlying5 Tryd.underlying9 (fun j hj => ?_)
    exact RowIn.cells h j _ (by simp [Lib.byteCells, hj])
/-- a slice of bytes, just made -/
theorem lit_bytes (w : World) (l : List UInt8) (A : Nat → Prop) (hA : A w.heap.size) (fr : Nat × Nat) : BytesIn (w.alloc (.cells (Lib.byteCells l).toArray 5 fr)) A (.slice (some ⟨w.heap.size, 0, none⟩) l.length l.length) l := by
  refine ⟨some ⟨w.heap.size, 0, none⟩, l.length, rfl, (fun e => nomatch e), fun k x hx => ⟨w.heap.size, 0, rfl, hA, ?_⟩⟩
  rw [World.cell?_alloc_mark, Nat.zero_add]
  simpa using hx

theorem head_text2 : textL [(sText, 0)] ++ errText 21 = [116, 101, 120, 116, 32, 48, 58, 32, 99, 111, 104, 111, 114, 116, 58, 32, 101, 114, 114, 111, 114, 32, 50, 49] := by decide +kernel

set_option maxRecDepth 100000 in
set_option maxHeartbeats 8000000 in
theorem head_true (w : World) (hg : ET w) (ht : PT w) : Calls Tryd.prog 9 #[] w fun e w' => e = .returned (.bool true) ∧ Below w.heap.size w w' := by
  have HV0 : Hid (Env w w) := ⟨Below.refl _ _, hg, ht⟩
  clear hg ht
  have e1 : (w.alloc (.cells #[.pointer none, .int .i64 0, .nilIface] 30)).heap.size = w.heap.size + 1 := by simp
  have hcv := Joins.run_convert_bytes_const_at (P := Tryd.prog) (w.alloc (.cells #[.pointer none, .int .i64 0, .nilIface] 30)) 32 5 #[.int .u8 97] 1 1 (w.heap.size + 1) e1.symm Tryd.underlying32 Tryd.underlying5
  go_enter Tryd.func9, Tryd.ntmps9
  go_wp2_with fail
  have hb1 : Below w.heap.size w ((w.alloc (.cells #[.pointer none, .int .i64 0, .nilIface] 30)).alloc (.cells #[.int .u8 97] 5 (1, 2))) := ((Below.refl _ _).alloc (Nat.le_refl _) _).alloc (by simp) _
  have hw1 := kept_below (fresh_writer w) ((Below.refl _ _).alloc (Nat.le_refl _) (.cells #[.int .u8 97] 5 (1, 2)))
  have hy1 := lit_bytes (w.alloc (.cells #[.pointer none, .int .i64 0, .nilIface] 30)) [97] (fun _ => True) trivial (1, 2)
  rw [e1] at hy1
  refine (wText_any w.heap.size _ _ ([], false) _ [97] _ hw1 hy1 (by decide) (fun k hk => by simp at hk; omega) (by simp) (by simp)).mono ?_
  rintro e w1 ⟨rfl, h1, h2⟩
  have HV1 := hideIt ((HV0.out.next hb1).grown h2 (Nat.le_refl _))
  have HW1 : Hid (WOk w1 w.heap.size (fun k => k ≠ w.heap.size) [0, 0, 0, 1, 97]) := h1
  clear h1 h2 hb1 hw1 hy1 e1 HV0 hcv
  go_wp2_with fail
  refine (wBytes_ok _ _ _ w1 HW1.out (by decide)).mono ?_
  rintro e w2 ⟨v, rfl, ho, hb⟩
  have HV2 := hideIt (HV1.out.next hb)
  have HY2 : Hid (BytesIn w2 (· < w2.heap.size) v [0, 0, 0, 1, 97]) := RowIn.mono (RowIn.of_own (A := fun _ => True) ho (fun _ _ => trivial)) (fun _ _ h => h)
  obtain ⟨a2, cap2, rfl⟩ := own_form ho
  clear ho hb HW1 HV1
  go_wp2_with fail
  have hb3 : Below w2.heap.size w2 (w2.alloc (.cells #[.int .u8 0, .int .u8 0, .int .u8 0, .int .u8 2, .int .u8 97] 5)) := (Below.refl _ _).alloc (Nat.le_refl _) _
  refine (new_any (fun _ => True) _ [0, 0, 0, 2, 97] _ (lit_bytes w2 [0, 0, 0, 2, 97] _ trivial (0, 0)) (by decide)).mono ?_
  rintro e w3 ⟨p, rfl, hp1, hp2, hr, hb⟩
  have HV3 := hideIt ((HV2.out.next hb3).next hb)
  have HR3 := hideIt hr
  have HB3 := hideIt (hb3.trans (hb.mono hb3.size))
  have hsz := HV2.out.1.size
  have hp3 : w2.heap.size + 1 ≤ p := by simpa using hp1
  have hs3 : w.heap.size ≤ p := by omega
  have HY3 := hideIt (RowIn.kept HY2.out (Kept.of_all HB3.out))
  clear hr hb hb3 HV2 HY2 HB3
  go_wp2_with fail
  refine (rText_any p (fun k => k ≠ p) [0, 0, 0, 2, 97] (.ok 0) w3 HR3.out (by simp) (fun k hk => by omega) (by decide)).mono ?_
  rintro e w4 ⟨v4, rfl, _, hr4, hg4⟩
  have HR4 : Hid (RBad w4 p (fun k => k ≠ p) 21 sText 0) := hr4
  have HV4 := hideIt (HV3.out.grown hg4 hs3)
  have hbb : ∀ k, k < w2.heap.size → k ≠ p := fun k hk => by omega
  have HY4 := hideIt (RowIn.kept HY3.out (Kept.of_grown hg4 (fun h => hbb p h rfl)))
  have hs4 := hg4.size
  clear hr4 hg4
  go_wp2_with fail
  refine (rEnd_any p (fun k => k ≠ p) [0, 0, 0, 2, 97] (.error (21, sText, 0)) w4 HR4.out (fun k hk => by omega) (by decide)).mono ?_
  rintro e w5 ⟨v5, rfl, he5, hb5⟩
  have HO5 : Hid (One w5 (fun k => k ≠ p) v5 21 sText 0) := he5
  have HV5 := hideIt (HV4.out.next hb5)
  have hy5 := (RowIn.kept HY4.out (Kept.of_all hb5))
  have hst : (convert 32 9 (.slice a2 5 cap2)).run Tryd.prog w5 = .ok (.string ⟨#[0, 0, 0, 1, 97]⟩) w5 := BytesIn.str hy5
  have HA5 := hideIt (HV5.out.at HO5.out)
  obtain ⟨ty, y, rfl⟩ := HO5.out.iface
  clear he5 hb5 hy5
  go_wp2_with fail
  refine HA5.out.code.mono ?_
  rintro e w6 ⟨rfl, H6, HB6⟩
  go_wp2_with fail
  refine (H6.out.text (by unfold fits; omega) (by decide) (by intro x hx; simp at hx; subst hx; unfold fits; simp) (by decide +kernel)).mono ?_
  rintro e w7 ⟨he, H7, HB7⟩
  rw [head_text2] at he
  subst he
  have HV7 := hideIt ((HV5.out.next HB6.out).next HB7.out)
  go_wp2
  go_ret
  exact ⟨rfl, HV7.out.1⟩
end Go.Proofs.YtaaaibnalhmmgaaDoor
