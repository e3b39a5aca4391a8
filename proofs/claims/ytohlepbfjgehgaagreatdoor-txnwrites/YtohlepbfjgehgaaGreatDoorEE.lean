/-
  What is proved here: a store's New, Of, Get; over this program.
-/
import Derived.Test.YtohlepbfjgehgaaGreatDoorED
namespace Go.Proofs.YtohlepbfjgehgaaGreatDoor
open Go.RowKit Go.Extern.Stop Go.Stop Go.Extern

theorem own_mono {w : World} {B B' e size n : Nat} {v : Value} {xs : List Value} (h : w.ownsRow B e size v n xs) (hb : B' ≤ B) : w.ownsRow B' e size v n xs := by
  obtain ⟨h1, h2⟩ := h
  refine ⟨h1, ?_⟩
  rcases h2 with h2 | ⟨g, cap, cur, e1, e2, e3⟩
  · exact Or.inl h2
  · exact Or.inr ⟨g, cap, cur, e1, Nat.le_trans hb e2, e3⟩
/-- a new store, where no store was: all its memory is new -/
def NewSto (w : World) (w' : World) (p : Nat) (l : List Ent) : Prop := Sto w' p (fun k => w.heap.size ≤ k ∧ k < w'.heap.size) l ∧ Below w.heap.size w w'
theorem new_sto (w w1 : World) (l : List Ent) (v : Value) (ho : w1.ownsRow w.heap.size 42 3 v l.length (entsCells l)) (hb : Below w.heap.size w w1) : NewSto w (w1.alloc (.cells #[v] 100)) w1.heap.size l := by
  have hb2 := (Below.refl w1.heap.size w1).alloc (Nat.le_refl _) (.cells #[v] 100)
  refine ⟨⟨v, by rw [World.cell?_alloc_at _ _ _ _ rfl]; rfl, World.frozen?_alloc_at _ _ _ _ rfl, ⟨hb.size, by simp⟩, fun k hk => hk.2, ?_, ?_⟩, hb.trans (hb2.mono hb.size)⟩
  · exact ownsRow_of_block (own_mono ho (Nat.zero_le _)) (fun g hg => hb2.block g (ownsRow_lt ho hg))
  · intro g hg
    have h1 := ownsRow_lt ho hg
    have h2 := (World.ownsRow.lt ho g hg).1
    exact ⟨⟨h2, by simp; omega⟩, by omega⟩
theorem stnew_any (w : World) : Calls Tryz.prog 25 #[] w fun e w' => ∃ p : Nat, e = .returned (.pointer (some ⟨p, 0, none⟩)) ∧ NewSto w w' p [] := by
  have H := hideIt (new_sto w w [] (.slice none 0 0) (World.ownsRow_nil _ _ _ _) (Below.refl _ _))
  go_enter Tryz.func25, Tryz.ntmps25
  go_wp2
  go_ret
  exact ⟨_, rfl, H.out⟩

set_option maxRecDepth 100000 in
set_option maxHeartbeats 4000000 in
theorem stof_any (w : World) (A : Nat → Prop) (v : Value) (l : List Ent) (hv : EntsIn w A v l) (hl : l.length ≤ maxLen) :
    Calls Tryz.prog 14 #[v] w fun e w' => (Fit l ∧ ∃ p : Nat, e = .returned (.pointer (some ⟨p, 0, none⟩)) ∧ NewSto w w' p l) ∨ (¬ Fit l ∧ e = .returned (.pointer none) ∧ Below w.heap.size w w') := by
  have HV := hideIt (hv.mono (A' := (· < w.heap.size)) (fun _ _ h => h))
  have HF := hideIt (stright_any w A v l hv hl)
  obtain ⟨a, cap, rfl⟩ := hv.form
  clear hv
  go_enter Tryz.func14, Tryz.ntmps14
  go_wp2_with fail
  refine HF.out.mono ?_
  rintro e w1 ⟨b, rfl, hb, hbl⟩
  have HB := hideIt (And.intro hb hbl)
  clear hb hbl HF
  cases b with
  | false =>
    go_wp2
    go_ret
    exact Or.inr ⟨fun h => (by have := HB.out.1.2 h; cases this), rfl, HB.out.2⟩
  | true =>
    have hfit := HB.out.1.1 rfl
    have HFT := hideIt hfit
    go_wp2_with fail
    refine (cloneE_any w1 _ _ l (RowIn.kept HV.out (Kept.of_all HB.out.2)) (by have := hfit.1; omega)).mono ?_
    rintro e w2 ⟨z, rfl, ho, hb2⟩
    have H := hideIt (new_sto w w2 l z (own_mono ho HB.out.2.size) (HB.out.2.trans (hb2.mono HB.out.2.size)))
    obtain ⟨az, cz, rfl⟩ := own_form ho
    clear ho hb2 hfit
    go_wp2
    go_ret
    exact Or.inl ⟨HFT.out, _, rfl, H.out⟩

set_option maxRecDepth 100000 in
set_option maxHeartbeats 4000000 in
theorem stget_any (w : World) (p : Nat) (O : Nat → Prop) (l : List Ent) (key : List UInt8) (h : Sto w p O l) (hr : Rising l) (hl : l.length ≤ 100000) :
    Calls Tryz.prog 18 #[.pointer (some ⟨p, 0, none⟩), .string ⟨key.toArray⟩] w fun e w' => ∃ (x : Ent) (is : Bool), e = .returned (.tuple #[entV x, .bool is]) ∧ GetIs l key x is ∧ Below w.heap.size w w' := by
  have HR := hideIt hr
  obtain ⟨W, hW, hwb, hws, z0, z1, z2⟩ := room3 w 42 (.string ⟨#[]⟩) (.string ⟨#[]⟩) (.int .i64 0)
  have hzf := fun j => (show W.frozen? ⟨w.heap.size, j, none⟩ = false by rw [hW]; exact World.frozen?_alloc_at _ _ _ _ rfl)
  have HS := hideIt (h.next hwb)
  have HWB := hideIt hwb
  clear h hr hwb
  go_enter Tryz.func18, Tryz.ntmps18
  go_wp2_with fail
  rw [← hW]
  clear hW
  refine (stfind_any W p O l key HS.out HR.out hl).mono ?_
  rintro e w1 ⟨a, rfl, hp, hb⟩
  have hblk : w1.heap[w.heap.size]? = W.heap[w.heap.size]? := hb.block _ (by omega)
  have y0 := (World.cell?_of_block (a := ⟨w.heap.size, 0, none⟩) hblk).trans z0
  have y1 := (World.cell?_of_block (a := ⟨w.heap.size, 1, none⟩) hblk).trans z1
  have y2 := (World.cell?_of_block (a := ⟨w.heap.size, 2, none⟩) hblk).trans z2
  have f0 := (World.frozen?_of_block (a := ⟨w.heap.size, 0, none⟩) hblk).trans (hzf 0)
  have f1 := (World.frozen?_of_block (a := ⟨w.heap.size, 1, none⟩) hblk).trans (hzf 1)
  have f2 := (World.frozen?_of_block (a := ⟨w.heap.size, 2, none⟩) hblk).trans (hzf 2)
  have HS1 := hideIt (HS.out.next hb)
  have HP := hideIt hp
  have HB := hideIt (HWB.out.trans (hb.mono HWB.out.size))
  clear hblk hb hp hzf z0 z1 z2
  obtain ⟨is, his⟩ : ∃ is, is = hasAt l key a := ⟨_, rfl⟩
  have HIS := hideIt his
  rw [← his]
  clear his
  cases is with
  | false =>
    have hput := room3_put w1 w.heap.size _ _ _ (.string ⟨#[]⟩) (.string ⟨#[]⟩) (.int .i64 0) ⟨y0, y1, y2⟩
    have HPUT := hideIt hput
    clear hput
    go_wp2
    obtain ⟨⟨v0, v1, v2⟩, hgr⟩ := HPUT.out
    generalize ((w1.setCell ⟨w.heap.size, 0, none⟩ (.string ⟨#[]⟩)).setCell ⟨w.heap.size, 1, none⟩ (.string ⟨#[]⟩)).setCell ⟨w.heap.size, 2, none⟩ (.int .i64 0) = W4 at v0 v1 v2 hgr ⊢
    refine bodyPost_ret (v := .tuple #[entV zeroE, .bool false]) (by simp [results, Tryz.results18, go_sem, v0, v1, v2, entV, zeroE]) rfl ?_
    exact ⟨zeroE, false, rfl, Or.inr ⟨rfl, rfl, place_get HR.out HP.out HIS.out.symm⟩, HB.out.grown hgr HB.out.size (fun k hk => by cases hk; exact Nat.le_refl _)⟩
  | true =>
    obtain ⟨x, hx, hxk⟩ : ∃ x, l[a]? = some x ∧ x.1 = key := by
      have h := HIS.out
      unfold hasAt at h
      cases hx : l[a]? with
      | none => rw [hx] at h; cases h
      | some x => rw [hx] at h; exact ⟨x, rfl, eq_of_beq h.symm⟩
    obtain ⟨v, c0, _, _, _, ho, _⟩ := HS1.out
    have hin := own_in ho
    obtain ⟨aa, cap, rfl⟩ := own_form ho
    obtain ⟨b, off, rfl, _, e0, e1, e2⟩ := EntsIn.at hin hx
    have HX := hideIt (And.intro hx hxk)
    have hal : a < l.length := (List.getElem?_eq_some_iff.1 hx).1
    have hput := room3_put w1 w.heap.size _ _ _ (.string ⟨x.1.toArray⟩) (.string ⟨x.2.1.toArray⟩) (.int .i64 x.2.2) ⟨y0, y1, y2⟩
    have HPUT := hideIt hput
    clear hput ho hin hx hxk
    go_wp2
    obtain ⟨⟨v0, v1, v2⟩, hgr⟩ := HPUT.out
    generalize ((w1.setCell ⟨w.heap.size, 0, none⟩ (.string ⟨x.1.toArray⟩)).setCell ⟨w.heap.size, 1, none⟩ (.string ⟨x.2.1.toArray⟩)).setCell ⟨w.heap.size, 2, none⟩ (.int .i64 x.2.2) = W4 at v0 v1 v2 hgr ⊢
    refine bodyPost_ret (v := .tuple #[entV x, .bool true]) (by simp [results, Tryz.results18, go_sem, v0, v1, v2, entV]) rfl ?_
    exact ⟨x, true, rfl, Or.inl ⟨rfl, HX.out.2, a, HX.out.1⟩, HB.out.grown hgr HB.out.size (fun k hk => by cases hk; exact Nat.le_refl _)⟩
end Go.Proofs.YtohlepbfjgehgaaGreatDoor
