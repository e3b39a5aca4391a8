/-
  What is proved here: the statements' own told (cohortlaw05), and the document's Same and Check of certificates, over this program.
-/
import Derived.Test.YtpgahjnjkihmhaaGreatDoorCE
import Derived.Test.YtpgahjnjkihmhaaGreatDoorSame
import Derived.Test.YtpgahjnjkihmhaaGreatDoorSH
import Derived.Test.YtpgahjnjkihmhaaGreatDoorStep
import Derived.Deep.RegionWith
namespace Go.Proofs.YtpgahjnjkihmhaaGreatDoor
open Go.RowKit Go.Extern.Stop Go.Stop Go.Extern

set_option maxRecDepth 100000 in
set_option maxHeartbeats 8000000 in
theorem dcSame_true (A B : Nat → Prop) (g d : Int) (x y : Value) (l : List Int) (w : World) (hx : NumsIn w A x l) (hy : NumsIn w B y l) (hlen : l.length ≤ 1000000) :
    Calls Tryz.prog 7 #[.agg #[.int .i64 g, .int .i64 d, x], .agg #[.int .i64 g, .int .i64 d, y]] w fun e w' => e = .returned (.bool true) ∧ Below w.heap.size w w' := by
  have H1 := hideIt hx
  have H2 := hideIt hy
  have HL := hideIt hlen
  obtain ⟨a1, cap1, rfl⟩ := hx.form
  obtain ⟨a2, cap2, rfl⟩ := hy.form
  clear hx hy hlen
  go_enter Tryz.func7, Tryz.ntmps7
  go_wp2_with fail
  have hb : Below w.heap.size w ((w.alloc (.cells #[.int .i64 g, .int .i64 d, .slice a1 l.length cap1] 24)).alloc (.cells #[.int .i64 g, .int .i64 d, .slice a2 l.length cap2] 24)) := ((Below.refl _ _).alloc (Nat.le_refl _) _).alloc (by simp) _
  refine (SameInts_true A B _ _ l _ (RowIn.kept H1.out (Kept.of_all hb)) (RowIn.kept H2.out (Kept.of_all hb)) HL.out).mono ?_
  rintro e w3 ⟨rfl, hb3⟩
  have HB3 := hideIt (hb.trans (hb3.mono hb.size))
  clear hb hb3
  go_wp2
  go_ret
  exact ⟨rfl, HB3.out⟩

/-- a Step's room, just made -/
theorem room2_new (w : World) (t : TypeId) (x y : Value) : ∃ W, W = w.alloc (.cells #[x, y] t) ∧ Below w.heap.size w W ∧ W.heap.size = w.heap.size + 1 ∧ W.cell? ⟨w.heap.size, 0, none⟩ = some x ∧ W.cell? ⟨w.heap.size, 1, none⟩ = some y ∧ W.frozen? ⟨w.heap.size, 0, none⟩ = false ∧ W.frozen? ⟨w.heap.size, 1, none⟩ = false := by
  refine ⟨_, rfl, (Below.refl _ _).alloc (Nat.le_refl _) _, by simp, ?_, ?_, World.frozen?_alloc_at _ _ _ _ rfl, World.frozen?_alloc_at _ _ _ _ rfl⟩
  · rw [World.cell?_alloc_at _ _ _ _ rfl]; rfl
  · rw [World.cell?_alloc_at _ _ _ _ rfl]; rfl
/-- a Step's room, written -/
theorem room2_set (w : World) (q : Nat) (x y X Y : Value) (c0 : w.cell? ⟨q, 0, none⟩ = some x) (c1 : w.cell? ⟨q, 1, none⟩ = some y) :
    ∃ W, W = (w.setCell ⟨q, 0, none⟩ X).setCell ⟨q, 1, none⟩ Y ∧ W.cell? ⟨q, 0, none⟩ = some X ∧ W.cell? ⟨q, 1, none⟩ = some Y ∧ (∀ A : Nat → Prop, ¬ A q → Kept A w W) ∧ ∀ B w0, Below B w0 w → B ≤ q → Below B w0 W := by
  have n01 : (⟨q, 0, none⟩ : Addr) ≠ ⟨q, 1, none⟩ := by simp
  have a0 := World.cell?_setCell_same w ⟨q, 0, none⟩ X c0
  have a1 : (w.setCell ⟨q, 0, none⟩ X).cell? ⟨q, 1, none⟩ = some y := (World.cell?_setCell_other _ _ _ _ n01).trans c1
  refine ⟨_, rfl, (World.cell?_setCell_other _ _ _ _ n01.symm).trans a0, World.cell?_setCell_same _ ⟨q, 1, none⟩ Y a1, fun A hA k hk _ => ?_, fun B w0 hb hq => (hb.setCell (p := ⟨q, 0, none⟩) hq X).setCell (p := ⟨q, 1, none⟩) hq Y⟩
  have hne : k ≠ q := fun e => hA (e ▸ hk)
  rw [Below.heap_setCell _ ⟨q, 1, none⟩ _ _ hne, Below.heap_setCell _ ⟨q, 0, none⟩ _ _ hne]

theorem chk_wrong {L : List (Int × Int)} {g d : Int} {S : List Int} {need : Int} {k : Nat} {x n : Int} (hN : wrongTo L g d S k = none) (hx : S[k]? = some x) (hw : whyS L g d S k x = n) (hn : n ≠ 0) : chk L g d S need = some (n, ⟨#[115, 105, 103, 110, 101, 114]⟩, (k : Int)) := by
  have h1 : wrongTo L g d S (k + 1) = some (n, k) := by
    unfold wrongTo; rw [hN, hx]; simp only [Option.getD_some, hw, if_neg hn]
  have hk := (List.getElem?_eq_some_iff.1 hx).1
  have h2 := wrongTo_stays h1 (S.length - (k + 1))
  rw [show k + 1 + (S.length - (k + 1)) = S.length by omega] at h2
  unfold chk; rw [h2]
theorem wrongTo_next {L : List (Int × Int)} {g d : Int} {S : List Int} {k : Nat} {x : Int} (hN : wrongTo L g d S k = none) (hx : S[k]? = some x) (hw : whyS L g d S k x = 0) : wrongTo L g d S (k + 1) = none := by
  unfold wrongTo; rw [hN, hx]; simp only [Option.getD_some, hw, if_true]
theorem chk_end {L : List (Int × Int)} {g d : Int} {S : List Int} {need : Int} (hN : wrongTo L g d S S.length = none) : chk L g d S need = if need < 1 ∨ (S.length : Int) < need then some (51, ⟨#[99, 104, 101, 99, 107]⟩, (S.length : Int)) else none := by
  unfold chk; rw [hN]

/-- what the document's Check answers -/
def told3 (o : Option (Int × ByteArray × Int)) : Value :=
  match o with
  | none => .tuple #[.int .i64 0, .agg #[.string ⟨#[]⟩, .int .i64 0]]
  | some (n, s, k) => .tuple #[.int .i64 n, .agg #[.string s, .int .i64 k]]

end Go.Proofs.YtpgahjnjkihmhaaGreatDoor
