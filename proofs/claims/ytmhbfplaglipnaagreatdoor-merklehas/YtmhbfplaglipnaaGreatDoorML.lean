/-
  What is proved here: slices.Clone of entries, and merkle's Prove; over this program.
-/
import Derived.Test.YtmhbfplaglipnaaGreatDoorMK
namespace Go.Proofs.YtmhbfplaglipnaaGreatDoor
open Go.RowKit Go.Extern.Stop Go.Stop Go.Extern

theorem infoEnt : (Tryz.prog.info? 42).map (fun i => (i.zero, i.size, i.bytes)) = some (some (.agg #[.string ⟨#[]⟩, .string ⟨#[]⟩, .int .i64 0]), 3, 40) := by kernel_rfl

set_option maxRecDepth 100000 in
set_option maxHeartbeats 8000000 in
theorem cloneE_any (w : World) (A : Nat → Prop) (v : Value) (l : List Ent) (hv : EntsIn w A v l) (hl : l.length ≤ 100000) :
    Calls Tryz.prog 29 #[v] w fun e w' => ∃ z, e = .returned z ∧ EntsIn w' (fun k => w.heap.size ≤ k ∧ k < w'.heap.size) z l ∧ Below w.heap.size w w' := by
  have HV := hideIt hv
  obtain ⟨i0, hi, hi2⟩ := Option.map_eq_some_iff.1 infoEnt
  obtain ⟨hz0, hz1, hz2⟩ : i0.zero = some (.agg #[.string ⟨#[]⟩, .string ⟨#[]⟩, .int .i64 0]) ∧ i0.size = 3 ∧ i0.bytes = 40 := by
    simp only [Prod.mk.injEq] at hi2; exact hi2
  have HI := hideIt (And.intro hi (And.intro hz0 (And.intro hz1 hz2)))
  clear hi2 hi hz0 hz1 hz2
  have hen := fun (w : World) (a : Option Addr) (n c : Nat) => Lib.run_eql_slice_nil (P := Tryz.prog) w 22 42 a n c 0 0 Tryz.underlying22
  have hv2 := hv
  obtain ⟨a, cap, rfl, hnil, _⟩ := hv2
  clear hv
  cases a with
  | none =>
    obtain ⟨rfl, hl0, _⟩ := hnil rfl
    have hl1 : l = [] := List.eq_nil_of_length_eq_zero hl0
    subst hl1
    clear hnil
    go_enter Tryz.func29, Tryz.ntmps29
    go_wp2
    go_ret
    exact ⟨_, rfl, ⟨none, 0, rfl, fun _ => ⟨rfl, rfl, rfl⟩, fun k x hx => by simp [entsCells] at hx⟩, Below.refl _ _⟩
  | some ad =>
    clear hnil
    have hb0 : Below w.heap.size w (w.alloc (.cells #[] 42)) := (Below.refl _ _).alloc (Nat.le_refl _) _
    have HO : Hid ((w.alloc (.cells #[] 42)).ownsRow w.heap.size 42 3 (.slice (some ⟨w.heap.size, 0, none⟩) 0 0) 0 []) := hideIt ⟨rfl, Or.inr ⟨w.heap.size, 0, #[], rfl, Nat.le_refl _, heap_alloc_new w _, Nat.le_refl _, Nat.zero_le _, rfl, rfl⟩⟩
    have HB0 := hideIt hb0
    have HV0 : Hid (EntsIn (w.alloc (.cells #[] 42)) (· < w.heap.size) (.slice (some ad) l.length cap) l) := hideIt (RowIn.kept (RowIn.mono (A' := (· < w.heap.size)) HV.out (fun _ _ h => h)) (Kept.of_all hb0))
    clear hb0
    go_enter Tryz.func29, Tryz.ntmps29
    go_wp2_with (at_builtin; refine wpList_append_own_at _ rfl _ _ 22 rfl w.heap.size 42 i0 (.agg #[.string ⟨#[]⟩, .string ⟨#[]⟩, .int .i64 0]) 3 40 Tryz.underlying22 HI.out.1 HI.out.2.1 HI.out.2.2.1 HI.out.2.2.2 rfl (by decide) _ _ _ rfl HO.out ad l.length cap (entsCells l) rfl ?k0 ?k1 ?k2 ?k3 ?k4 ?k5 ?_)
    case k0 => exact entsCells_len l
    case k1 => exact RowIn.cells HV0.out
    case k2 => exact entsCells_one l
    case k3 => unfold maxLen; omega
    case k4 => omega
    case k5 => simp
    intro z w2 h1 h2 _ h3
    have HZ := hideIt (And.intro h1 (And.intro h2 h3))
    obtain ⟨az, capz, rfl⟩ := own_form h1
    clear h1 h2 h3
    go_wp2
    go_ret
    obtain ⟨h1, h2, h3⟩ := HZ.out
    refine ⟨_, rfl, RowIn.mono (RowIn.of_own (A := (w.heap.size ≤ ·)) h1 (fun _ h => h)) (fun k hk hl => ⟨hk, hl⟩), ?_⟩
    exact HB0.out.grown h2 (by simp) (fun k hk => by cases hk; exact Nat.le_refl _)

theorem ents_part {l : List Ent} {F m k : Nat} {x : Value} (h0 : F + m ≤ l.length) (hx : (entsCells (part l F m))[k]? = some x) : (entsCells l)[F * 3 + k]? = some x := by
  have e1 : l = l.take F ++ (part l F m ++ l.drop (F + m)) := by
    rw [part, ← List.drop_drop, List.take_append_drop, List.take_append_drop]
  have hk1 := (List.getElem?_eq_some_iff.1 hx).1
  rw [entsCells_len, part_length h0] at hk1
  have e2 : (entsCells (l.take F)).length = F * 3 := by rw [entsCells_len, List.length_take, Nat.min_eq_left (by omega)]
  have e3 : (entsCells (part l F m)).length = m * 3 := by rw [entsCells_len, part_length h0]
  rw [e1, entsCells_append, entsCells_append, List.getElem?_append_right (by omega), e2, List.getElem?_append_left (by omega), ← hx]
  congr 1
  omega
/-- l's entries from F on, m of them, as a slice of the slice -/
theorem ents_cut {w : World} {A : Nat → Prop} {a : Option Addr} {cap : Nat} {l : List Ent} (h : EntsIn w A (.slice a l.length cap) l) (F m : Nat) (h0 : F + m ≤ l.length) (hne : ¬ cap = F) : EntsIn w A (.slice (a.map fun x => x.add (F * 3)) m (cap - F)) (part l F m) := by
  obtain ⟨a', cap', e1, hnil, h2⟩ := h
  simp only [Value.slice.injEq] at e1
  obtain ⟨rfl, _, rfl⟩ := e1
  refine ⟨a.map fun x => x.add (F * 3), cap - F, by rw [part_length h0], fun e => ?_, fun k x hx => ?_⟩
  · cases a with
    | none =>
      obtain ⟨hc, hl, _⟩ := hnil rfl
      omega
    | some ad => cases e
  · obtain ⟨b', off', rfl, r2, r3⟩ := h2 _ _ (ents_part h0 hx)
    exact ⟨b', off' + F * 3, by simp [addr_add], r2, by rw [Nat.add_assoc]; exact r3⟩
theorem ents_cut0 {w : World} {A : Nat → Prop} {a : Option Addr} {l : List Ent} {F m : Nat} (h0 : m = 0) (h1 : F + m ≤ l.length) : EntsIn w A (.slice a m 0) (part l F m) := by
  subst h0
  exact ⟨a, 0, by rw [part_length h1], fun _ => ⟨rfl, part_length h1, by simp [part, entsCells]⟩, fun k x hx => by simp [part, entsCells] at hx⟩
theorem Mine.apart {w : World} {O : Nat → Prop} {B : Nat} {x : Value} {ds : List Int} (h : Mine w O B x ds) : NumsIn w (fun k => B ≤ k ∧ k < w.heap.size ∧ ¬ O k) x ds := by
  obtain ⟨a, cap, e1, h1, h2⟩ := h.nums
  refine ⟨a, cap, e1, h1, fun k y hy => ?_⟩
  obtain ⟨b, off, r1, _, r3⟩ := h2 k y hy
  exact ⟨b, off, r1, h.2 b (by rw [e1, r1]; rfl), r3⟩
/-- a result room, written -/
theorem room4_put (w : World) (q : Nat) (x y z u X Y Z U : Value) (h : w.cell? ⟨q, 0, none⟩ = some x ∧ w.cell? ⟨q, 1, none⟩ = some y ∧ w.cell? ⟨q, 2, none⟩ = some z ∧ w.cell? ⟨q, 3, none⟩ = some u) :
    let W := (((w.setCell ⟨q, 0, none⟩ X).setCell ⟨q, 1, none⟩ Y).setCell ⟨q, 2, none⟩ Z).setCell ⟨q, 3, none⟩ U
    (W.cell? ⟨q, 0, none⟩ = some X ∧ W.cell? ⟨q, 1, none⟩ = some Y ∧ W.cell? ⟨q, 2, none⟩ = some Z ∧ W.cell? ⟨q, 3, none⟩ = some U) ∧ w.grownBy W (some q) := by
  obtain ⟨c0, c1, c2, c3⟩ := h
  intro W
  refine ⟨⟨?_, ?_, ?_, ?_⟩, grown_set (grown_set (grown_set (grown_set (grown_refl _ _) _ _) _ _) _ _) _ _⟩
  · rw [World.cell?_setCell_other _ _ _ _ (by simp), World.cell?_setCell_other _ _ _ _ (by simp), World.cell?_setCell_other _ _ _ _ (by simp)]
    exact World.cell?_setCell_same _ _ _ c0
  · rw [World.cell?_setCell_other _ _ _ _ (by simp), World.cell?_setCell_other _ _ _ _ (by simp)]
    exact World.cell?_setCell_same _ _ _ (by rw [World.cell?_setCell_other _ _ _ _ (by simp)]; exact c1)
  · rw [World.cell?_setCell_other _ _ _ _ (by simp)]
    exact World.cell?_setCell_same _ _ _ (by rw [World.cell?_setCell_other _ _ _ _ (by simp), World.cell?_setCell_other _ _ _ _ (by simp)]; exact c2)
  · exact World.cell?_setCell_same _ _ _ (by rw [World.cell?_setCell_other _ _ _ _ (by simp), World.cell?_setCell_other _ _ _ _ (by simp), World.cell?_setCell_other _ _ _ _ (by simp)]; exact c3)
/-- a result room of four cells -/
theorem room4 (w : World) (t : TypeId) (x y z u : Value) : ∃ W, W = w.alloc (.cells #[x, y, z, u] t) ∧ Below w.heap.size w W ∧ W.heap.size = w.heap.size + 1 ∧ (W.cell? ⟨w.heap.size, 0, none⟩ = some x ∧ W.cell? ⟨w.heap.size, 1, none⟩ = some y ∧ W.cell? ⟨w.heap.size, 2, none⟩ = some z ∧ W.cell? ⟨w.heap.size, 3, none⟩ = some u) ∧ ∀ j, W.frozen? ⟨w.heap.size, j, none⟩ = false :=
  ⟨_, rfl, (Below.refl _ _).alloc (Nat.le_refl _) _, by simp, ⟨by rw [World.cell?_alloc_at _ _ _ _ rfl]; rfl, by rw [World.cell?_alloc_at _ _ _ _ rfl]; rfl, by rw [World.cell?_alloc_at _ _ _ _ rfl]; rfl, by rw [World.cell?_alloc_at _ _ _ _ rfl]; rfl⟩, fun j => World.frozen?_alloc_at _ _ _ _ rfl⟩
/-- where its slices lie -/
def ProofAp (w : World) (O : Nat → Prop) (vl vb : Value) (L : List Ent) (Bs : List Int) : Prop := EntsAp w O vl L ∧ NumsIn w (fun k => k < w.heap.size ∧ ¬ O k) vb Bs

set_option maxRecDepth 100000 in
set_option maxHeartbeats 8000000 in
theorem mProve_ok (w : World) (p : Nat) (O : Nat → Prop) (T : List (List UInt8)) (v : Value) (l : List Ent) (F m : Nat) (h : Bk w p O T) (hv : EntsAp w O v l) (hf : ∀ e ∈ l, fits e.2.2) (hr : Right l) (h0 : F + m ≤ l.length) (hT : T.length + cost l.length ≤ 65536) (hcap : ∀ a cap, v = .slice a l.length cap → l.length ≤ cap) :
    Calls Tryz.prog 17 #[.pointer (some ⟨p, 0, none⟩), v, .int .i64 F, .int .i64 m] w fun e w' => ∃ (f : Nat) (vl vb : Value) (ds : List Int) (O' : Nat → Prop) (T' : List (List UInt8)), e = .returned (.tuple #[.agg #[.int .i64 l.length, .int .i64 F, vl, vb], .nilIface]) ∧ Bk w' p O' T' ∧ Goes w O T w' O' T' (cost l.length) ∧ ProofAp w' O' vl vb (part l F m) ds ∧ ((∀ d ∈ ds, 0 ≤ d ∧ d ≤ 65536) ∧ ds.length ≤ max 1 l.length) ∧ ProvIs T' F m f 0 l ds [] := by
  have hlen : l.length ≤ 1024 := hr.1
  have HH := hideIt (mright_any w _ v l hv (by unfold maxLen; omega))
  have H := hideIt (And.intro h (And.intro hv (And.intro hf (And.intro hr (And.intro h0 hT)))))
  obtain ⟨a, cap, rfl⟩ := hv.form
  obtain ⟨W, hW, hwb, hws, hc4, hfz⟩ := room4 w 25 (.int .i64 0) (.int .i64 0) (.slice none 0 0) (.slice none 0 0)
  have HC := hideIt (And.intro hc4 (And.intro hfz hws))
  have HR := hideIt (mright_any W _ (.slice a l.length cap) l (hv.next hwb) (by unfold maxLen; omega))
  have HWB := hideIt hwb
  have k1 : ¬ ((l.length : Int) - (m : Int) < (F : Int)) := by omega
  have k2 : ¬ ((F : Int) < 0) := by omega
  have k3 : ¬ ((m : Int) < 0) := by omega
  clear h hv hr hT hf hwb hws hc4 hfz HH
  go_enter Tryz.func17, Tryz.ntmps17
  go_wp2_with fail
  rw [← hW]
  clear hW
  refine HR.out.mono ?_
  rintro e w1 ⟨b, rfl, hb, hbl⟩
  have hb2 : b = true := hb.2 H.out.2.2.2.1
  subst hb2
  have HB1 := hideIt hbl
  clear hb hbl HR
  go_wp2_with fail
  have HV1 := hideIt (H.out.2.1.next (HWB.out.trans (HB1.out.mono HWB.out.size)))
  refine (mbeside_any w1 p O T _ l F m (H.out.1.next (HWB.out.trans (HB1.out.mono HWB.out.size))) HV1.out (right_ok H.out.2.2.2.1 H.out.2.2.1) hlen H.out.2.2.2.2.1 H.out.2.2.2.2.2).mono ?_
  rintro e w2 ⟨f, x, ds, O2, T2, rfl, g1, g2, g3, g4, g5⟩
  obtain ⟨ax, capx, rfl⟩ := g3.form
  have HG := hideIt (And.intro g1 (And.intro (Goes.pre (HWB.out.trans (HB1.out.mono HWB.out.size)) g2) (And.intro g3 (And.intro g4 g5))))
  have HV2 := hideIt (HV1.out.goes g2)
  have hq1 : w.heap.size < w1.heap.size := by have := HC.out.2.2; have := HB1.out.size; omega
  have HBL : Hid (w2.heap[w.heap.size]? = W.heap[w.heap.size]? ∧ w1.heap.size ≤ w2.heap.size ∧ w.heap.size < w1.heap.size ∧ ¬ O2 w.heap.size) := hideIt ⟨(g2.turn.block w.heap.size hq1 (fun ho => by have := H.out.1.2 _ ho; omega)).trans (HB1.out.block _ (by have := HC.out.2.2; omega)), g2.turn.size, hq1, g2.not hq1 (fun ho => by have := H.out.1.2 _ ho; omega)⟩
  clear hq1 g1 g2 g3 g4 g5
  have hcp := hcap a cap rfl
  have q1 : (F : Int) + (m : Int) ≤ (cap : Int) := by omega
  have q2 : (F : Int) ≤ (F : Int) + (m : Int) := by omega
  clear hcap
  have HPL : Hid ((part l F m).length ≤ 100000) := hideIt (by rw [part_length h0]; omega)
  have HCUT := hideIt (fun hne => ents_cut HV2.out F m h0 hne)
  have HCUT0 := hideIt (fun (h : cap = F) => (ents_cut0 (w := w2) (A := fun k => k < w2.heap.size ∧ ¬ O2 k) (a := a) (show m = 0 by omega) h0))
  by_cases hcf : cap = F
  case' pos =>
    have HE := hideIt (HCUT0.out hcf)
    have hcf2 := hcf.symm
    clear hcf
    subst hcf2
    obtain rfl : m = 0 := by omega
    clear HCUT HCUT0
    go_wp2_with fail
    refine (cloneE_any w2 _ _ _ HE.out HPL.out).mono ?_
  case' neg =>
    have HE := hideIt (HCUT.out hcf)
    clear HCUT HCUT0
    go_wp2_with fail
    refine (cloneE_any w2 _ _ _ HE.out HPL.out).mono ?_
  all_goals
    rintro e w3 ⟨z, rfl, hz, hb3⟩
    obtain ⟨az, capz, rfl⟩ := hz.form
    generalize (part l F _).length = pl at hz ⊢
    have HZ := hideIt (And.intro hz hb3)
    clear hz
    have HB3 := hideIt hb3
    have hblk : w3.heap[w.heap.size]? = W.heap[w.heap.size]? := (hb3.block _ (Nat.lt_of_lt_of_le HBL.out.2.2.1 HBL.out.2.1)).trans HBL.out.1
    have c0 := (World.cell?_of_block (a := ⟨w.heap.size, 0, none⟩) hblk).trans HC.out.1.1
    have c1 := (World.cell?_of_block (a := ⟨w.heap.size, 1, none⟩) hblk).trans HC.out.1.2.1
    have c2 := (World.cell?_of_block (a := ⟨w.heap.size, 2, none⟩) hblk).trans HC.out.1.2.2.1
    have c3 := (World.cell?_of_block (a := ⟨w.heap.size, 3, none⟩) hblk).trans HC.out.1.2.2.2
    have z0 := (World.frozen?_of_block (a := ⟨w.heap.size, 0, none⟩) hblk).trans (HC.out.2.1 0)
    have z1 := (World.frozen?_of_block (a := ⟨w.heap.size, 1, none⟩) hblk).trans (HC.out.2.1 1)
    have z2 := (World.frozen?_of_block (a := ⟨w.heap.size, 2, none⟩) hblk).trans (HC.out.2.1 2)
    have z3 := (World.frozen?_of_block (a := ⟨w.heap.size, 3, none⟩) hblk).trans (HC.out.2.1 3)
    clear hb3 hblk
    have hput := room4_put w3 w.heap.size _ _ _ _ (.int .i64 l.length) (.int .i64 F) (.slice az pl capz) (.slice ax ds.length capx) ⟨c0, c1, c2, c3⟩
    have HPUT := hideIt hput
    clear hput
    go_wp2
    obtain ⟨⟨e0, e1, e2, e3⟩, hgr⟩ := HPUT.out
    generalize ((((w3.setCell ⟨w.heap.size, 0, none⟩ (.int .i64 l.length)).setCell ⟨w.heap.size, 1, none⟩ (.int .i64 F)).setCell ⟨w.heap.size, 2, none⟩ (.slice az pl capz)).setCell ⟨w.heap.size, 3, none⟩ (.slice ax ds.length capx)) = W4 at e0 e1 e2 e3 hgr ⊢
    refine bodyPost_ret (v := .tuple #[.agg #[.int .i64 l.length, .int .i64 F, .slice az pl capz, .slice ax ds.length capx], .nilIface]) (by simp [results, Tryz.results17, go_sem, e0, e1, e2, e3]) rfl ?_
    obtain ⟨g1, g2, g3, g4, g5⟩ := HG.out
    obtain ⟨hz, hb3⟩ := HZ.out
    obtain ⟨_, hs1, hs2, hq⟩ := HBL.out
    refine ⟨f, _, _, ds, O2, T2, rfl, (g1.next hb3).append hgr (fun g e => by cases e; exact hq), ((g2.trans (Goes.of_below hb3)).append hgr (fun g e => by cases e; exact Nat.le_refl _)).more (by omega), ⟨?_, ?_⟩, g4, g5⟩
    · exact RowIn.mono (RowIn.kept hz (Kept.of_grown hgr (fun h => by omega))) (fun k hk hl => ⟨hl, fun ho => by have := g1.2 _ ho; omega⟩)
    · exact RowIn.mono (RowIn.kept (RowIn.kept g3.apart (Kept.of_all hb3)) (Kept.of_grown hgr (fun h => by omega))) (fun k hk hl => ⟨hl, hk.2.2⟩)

set_option maxRecDepth 100000 in
set_option maxHeartbeats 8000000 in
theorem mProve_bad (w : World) (A : Nat → Prop) (u v : Value) (l : List Ent) (F m : Int) (hv : EntsIn w A v l) (hl : l.length ≤ maxLen) (hr : ¬ Right l) :
    Calls Tryz.prog 17 #[u, v, .int .i64 F, .int .i64 m] w fun e w' => ∃ er, e = .returned (.tuple #[.agg #[.int .i64 0, .int .i64 0, .slice none 0 0, .slice none 0 0], er]) ∧ One w' (w.heap.size ≤ ·) er 1 ⟨#[109, 101, 114, 107, 108, 101]⟩ 0 ∧ Below w.heap.size w w' := by
  obtain ⟨W, hW, hwb, hws, hc4, hfz⟩ := room4 w 25 (.int .i64 0) (.int .i64 0) (.slice none 0 0) (.slice none 0 0)
  have HC := hideIt (And.intro hc4 (And.intro hfz hws))
  have HH := hideIt (mright_any W A v l (RowIn.kept (RowIn.mono (A' := fun k => A k) hv (fun _ h _ => h)) (Kept.of_all hwb)) hl)
  have HR := hideIt hr
  have HWB := hideIt hwb
  obtain ⟨a, cap, rfl⟩ := hv.form
  clear hv hr hwb hws hc4 hfz
  go_enter Tryz.func17, Tryz.ntmps17
  go_wp2_with fail
  rw [← hW]
  clear hW
  refine HH.out.mono ?_
  rintro e w1 ⟨b, rfl, hb, hbl⟩
  have hb2 : b = false := by
    cases b with
    | false => rfl
    | true => exact absurd (hb.1 rfl) HR.out
  subst hb2
  have HB := hideIt hbl
  have HS : Hid (w.heap.size < w1.heap.size) := hideIt (by have := HC.out.2.2; have := hbl.size; omega)
  clear hb hbl HH
  go_wp2_with fail
  refine (mwrong_any w1 1 (by decide)).mono ?_
  rintro e w2 ⟨er, rfl, ho, hb2⟩
  obtain ⟨ty, y, rfl⟩ := ho.iface
  have HO := hideIt ho
  have HB2 := hideIt hb2
  have hblk : w2.heap[w.heap.size]? = W.heap[w.heap.size]? := (hb2.block _ HS.out).trans (HB.out.block _ (by have := HC.out.2.2; omega))
  have c0 := (World.cell?_of_block (a := ⟨w.heap.size, 0, none⟩) hblk).trans HC.out.1.1
  have c1 := (World.cell?_of_block (a := ⟨w.heap.size, 1, none⟩) hblk).trans HC.out.1.2.1
  have c2 := (World.cell?_of_block (a := ⟨w.heap.size, 2, none⟩) hblk).trans HC.out.1.2.2.1
  have c3 := (World.cell?_of_block (a := ⟨w.heap.size, 3, none⟩) hblk).trans HC.out.1.2.2.2
  have z0 := (World.frozen?_of_block (a := ⟨w.heap.size, 0, none⟩) hblk).trans (HC.out.2.1 0)
  have z1 := (World.frozen?_of_block (a := ⟨w.heap.size, 1, none⟩) hblk).trans (HC.out.2.1 1)
  have z2 := (World.frozen?_of_block (a := ⟨w.heap.size, 2, none⟩) hblk).trans (HC.out.2.1 2)
  have z3 := (World.frozen?_of_block (a := ⟨w.heap.size, 3, none⟩) hblk).trans (HC.out.2.1 3)
  have hput := room4_put w2 w.heap.size _ _ _ _ (.int .i64 0) (.int .i64 0) (.slice none 0 0) (.slice none 0 0) ⟨c0, c1, c2, c3⟩
  have HPUT := hideIt hput
  clear hput ho hb2 hblk
  go_wp2
  obtain ⟨⟨e0, e1, e2, e3⟩, hgr⟩ := HPUT.out
  generalize ((((w2.setCell ⟨w.heap.size, 0, none⟩ (.int .i64 0)).setCell ⟨w.heap.size, 1, none⟩ (.int .i64 0)).setCell ⟨w.heap.size, 2, none⟩ (.slice none 0 0)).setCell ⟨w.heap.size, 3, none⟩ (.slice none 0 0)) = W4 at e0 e1 e2 e3 hgr ⊢
  refine bodyPost_ret (v := .tuple #[.agg #[.int .i64 0, .int .i64 0, .slice none 0 0, .slice none 0 0], .iface ty y]) (by simp [results, Tryz.results17, go_sem, e0, e1, e2, e3]) rfl ?_
  have hs := HS.out
  refine ⟨_, rfl, ?_, ?_⟩
  · exact (HO.out.kept (Kept.of_grown hgr (fun h => by omega))).mono (fun k hk _ => by omega)
  · exact ((HWB.out.trans (HB.out.mono HWB.out.size)).trans (HB2.out.mono (Nat.le_of_lt hs))).grown hgr (Nat.le_trans (Nat.le_of_lt hs) HB2.out.size) (fun k hk => by cases hk; exact Nat.le_refl _)
end Go.Proofs.YtmhbfplaglipnaaGreatDoor
