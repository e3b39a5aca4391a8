/-
  What is proved here: merkle's Root; over this program.
-/
import Derived.Test.YtmhbfplaglipnaaGreatDoorMH
namespace Go.Proofs.YtmhbfplaglipnaaGreatDoor
open Go.RowKit Go.Extern.Stop Go.Stop Go.Extern

/-- d is the digest of the root of l -/
def RootIs (T : List (List UInt8)) (l : List Ent) (d : Int) : Prop := ∃ (f t : Nat), TopIs T f l t ∧ t ≤ 65536 ∧ Dig T (rootT l.length t) d
theorem RootIs.more {T T' : List (List UInt8)} {l : List Ent} {d : Int} (h : RootIs T l d) (r : Exts T T') : RootIs T' l d := by
  obtain ⟨f, t, h1, h2, h3⟩ := h
  exact ⟨f, t, h1.more r, h2, h3.more r⟩
theorem right_ok {l : List Ent} (h : Right l) (hf : ∀ e ∈ l, fits e.2.2) : ∀ e ∈ l, okE e := by
  intro e he
  obtain ⟨k, hk⟩ := List.getElem?_of_mem he
  have := h.2 k (List.getElem?_eq_some_iff.1 hk).1 e hk
  exact ⟨this.1, this.2.1, hf e he⟩

/-- entries that lie apart from the Book's blocks -/
def EntsAp (w : World) (O : Nat → Prop) (v : Value) (l : List Ent) : Prop := EntsIn w (fun k => k < w.heap.size ∧ ¬ O k) v l
theorem EntsAp.next {w w' : World} {O : Nat → Prop} {v : Value} {l : List Ent} (h : EntsAp w O v l) (hb : Below w.heap.size w w') : EntsAp w' O v l :=
  RowIn.mono (RowIn.kept h (Kept.of_all hb)) (fun _ hk hl => ⟨hl, hk.2⟩)
theorem EntsAp.goes {w w' : World} {O O' : Nat → Prop} {T T' : List (List UInt8)} {c : Nat} {v : Value} {l : List Ent} (h : EntsAp w O v l) (hg : Goes w O T w' O' T' c) : EntsAp w' O' v l :=
  RowIn.mono (RowIn.kept h (hg.turn.kept (fun _ hk _ => hk.2))) (fun _ hk hl => ⟨hl, hg.not hk.1 hk.2⟩)
theorem EntsAp.form {w : World} {O : Nat → Prop} {v : Value} {l : List Ent} (h : EntsAp w O v l) : ∃ a cap, v = .slice a l.length cap := EntsIn.form h
theorem EntsAp.of {w : World} {O A : Nat → Prop} {v : Value} {l : List Ent} (h : EntsIn w A v l) (hA : ∀ k, A k → k < w.heap.size → ¬ O k) : EntsAp w O v l := RowIn.mono h (fun k hk hl => ⟨hl, hA k hk hl⟩)

set_option maxRecDepth 100000 in
set_option maxHeartbeats 8000000 in
theorem mRoot_bad (w : World) (A : Nat → Prop) (u v : Value) (l : List Ent) (hv : EntsIn w A v l) (hl : l.length ≤ maxLen) (hr : ¬ Right l) :
    Calls Tryz.prog 14 #[u, v] w fun e w' => ∃ er, e = .returned (.tuple #[.int .i64 (-1), er]) ∧ One w' (w.heap.size ≤ ·) er 1 ⟨#[109, 101, 114, 107, 108, 101]⟩ 0 ∧ Below w.heap.size w w' := by
  have HH := hideIt (mright_any w A v l hv hl)
  have HR := hideIt hr
  obtain ⟨a, cap, rfl⟩ := hv.form
  clear hv hr
  go_enter Tryz.func14, Tryz.ntmps14
  go_wp2_with fail
  refine HH.out.mono ?_
  rintro e w1 ⟨b, rfl, hb, hbl⟩
  have hb2 : b = false := by
    cases b with
    | false => rfl
    | true => exact absurd (hb.1 rfl) HR.out
  subst hb2
  have HB := hideIt hbl
  clear hb hbl
  go_wp2_with fail
  refine (mwrong_any w1 1 (by decide)).mono ?_
  rintro e w2 ⟨er, rfl, ho, hb2⟩
  have HO := hideIt ho
  have HB2 := hideIt hb2
  obtain ⟨ty, y, rfl⟩ := ho.iface
  clear ho hb2
  go_wp2
  go_ret2
  have := HB.out.size
  exact ⟨_, rfl, HO.out.mono (fun k hk _ => by omega), HB.out.trans (HB2.out.mono HB.out.size)⟩

set_option maxRecDepth 100000 in
set_option maxHeartbeats 8000000 in
theorem mRoot_ok (w : World) (p : Nat) (O : Nat → Prop) (T : List (List UInt8)) (v : Value) (l : List Ent) (h : Bk w p O T) (hv : EntsAp w O v l) (hf : ∀ e ∈ l, fits e.2.2) (hr : Right l) (hT : T.length + (cost l.length + 1) ≤ 65536) :
    Calls Tryz.prog 14 #[.pointer (some ⟨p, 0, none⟩), v] w fun e w' => ∃ (d : Nat) (O' : Nat → Prop) (T' : List (List UInt8)), e = .returned (.tuple #[.int .i64 d, .nilIface]) ∧ Bk w' p O' T' ∧ Goes w O T w' O' T' (cost l.length + 1) ∧ RootIs T' l d ∧ d ≤ 65536 := by
  have hlen : l.length ≤ 1024 := hr.1
  have HH := hideIt (mright_any w _ v l hv (by unfold maxLen; omega))
  have H := hideIt (And.intro h (And.intro hv (And.intro hf (And.intro hr hT))))
  obtain ⟨a, cap, rfl⟩ := hv.form
  clear h hv hr hT hf
  go_enter Tryz.func14, Tryz.ntmps14
  go_wp2_with fail
  refine HH.out.mono ?_
  rintro e w1 ⟨b, rfl, hb, hbl⟩
  have hb2 : b = true := hb.2 H.out.2.2.2.1
  subst hb2
  have HB := hideIt hbl
  clear hb hbl HH
  go_wp2_with fail
  refine (mtop_any w1 p O (fun k => k < w1.heap.size ∧ ¬ O k) T _ l 0 l.length (H.out.1.next HB.out) (H.out.2.1.next HB.out) (fun k hk _ => hk.2) (right_ok H.out.2.2.2.1 H.out.2.2.1) hlen (by omega) (Or.inr rfl) (by have := H.out.2.2.2.2; omega)).mono ?_
  rintro e w2 ⟨f, t, O1, T1, rfl, k1, k2, k3, k4⟩
  rw [part_all] at k4
  have HK := hideIt (And.intro k1 (And.intro (Goes.pre HB.out k2) (And.intro k3 k4)))
  clear k1 k2 k3 k4
  go_wp2_with fail
  refine (mrootD_any w2 p O1 T1 l.length t HK.out.1.1 (by have := HK.out.2.1.len; have := H.out.2.2.2.2; omega)).mono ?_
  rintro e w3 hA
  obtain ⟨d, O2, rfl, j1, j2, j3, j4⟩ := hA.goes
  have HJ := hideIt (And.intro j1 (And.intro j2 (And.intro j3 j4)))
  clear hA j1 j2 j3 j4
  go_wp2
  go_ret2
  obtain ⟨k1, k2, k3, k4⟩ := HK.out
  obtain ⟨j1, j2, j3, j4⟩ := HJ.out
  exact ⟨d, O2, _, rfl, j1, k2.trans j2, ⟨f, t, k4.more j2.exts, k3, j3⟩, j4⟩
end Go.Proofs.YtmhbfplaglipnaaGreatDoor
