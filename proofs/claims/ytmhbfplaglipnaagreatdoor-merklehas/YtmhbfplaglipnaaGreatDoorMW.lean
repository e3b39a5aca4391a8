/-
  What is proved here: merkle's reachesBelow, reachesTo, reachesLast and Has; over this program.
-/
import Derived.Test.YtmhbfplaglipnaaGreatDoorMU
namespace Go.Proofs.YtmhbfplaglipnaaGreatDoor
open Go.RowKit Go.Extern.Stop Go.Stop Go.Extern

/-- does a proof leave out nothing from a key on, up to its first entry? -/
def reachB (F : Int) (L : List Ent) (key : List UInt8) : Bool := F == 0 || (match L[0]? with | none => false | some e => Op.bytesLess e.1 key)
/-- does it go up to the last entry of all? -/
def reachE (N F : Int) (L : List Ent) : Bool := F + L.length == N
/-- does it leave out nothing behind its last entry, up to a key? -/
def reachT (N F : Int) (L : List Ent) (key : List UInt8) : Bool := reachE N F L || (match L[L.length - 1]? with | none => false | some e => !(Op.bytesLess e.1 key))

set_option maxRecDepth 100000 in
set_option maxHeartbeats 8000000 in
theorem mrLast_any (w : World) (N F : Int) (al : Option Addr) (cl : Nat) (ab : Option Addr) (nb cb : Nat) (L : List Ent) (hl : L.length ≤ 1024) (hF : 0 ≤ F ∧ F ≤ 1024) :
    Calls Tryz.prog 32 #[.agg #[.int .i64 N, .int .i64 F, .slice al L.length cl, .slice ab nb cb]] w fun e w' => e = .returned (.bool (reachE N F L)) ∧ Below w.heap.size w w' := by
  obtain ⟨k1, k2⟩ := hF
  go_enter Tryz.func32, Tryz.ntmps32
  go_wp2
  go_ret
  exact ⟨rfl, (Below.refl _ _).alloc (Nat.le_refl _) _⟩

set_option maxRecDepth 100000 in
set_option maxHeartbeats 8000000 in
theorem mrBelow_any (w : World) (A : Nat → Prop) (N F : Int) (vl : Value) (ab : Option Addr) (nb cb : Nat) (L : List Ent) (key : List UInt8) (hv : EntsIn w A vl L) (hl : L.length ≤ 1024) :
    Calls Tryz.prog 30 #[.agg #[.int .i64 N, .int .i64 F, vl, .slice ab nb cb], .string ⟨key.toArray⟩] w fun e w' => e = .returned (.bool (reachB F L key)) ∧ Below w.heap.size w w' := by
  obtain ⟨al, cl, rfl⟩ := hv.form
  obtain ⟨W, hW, hwb, hws, ⟨c0, c1, c2, c3⟩, _⟩ := room4 w 25 (.int .i64 N) (.int .i64 F) (.slice al L.length cl) (.slice ab nb cb)
  have HWB := hideIt hwb
  have HV := hideIt (RowIn.kept (RowIn.mono (A' := fun k => A k) hv (fun _ h _ => h)) (Kept.of_all hwb))
  clear hv hwb hws
  by_cases hF : F = 0
  · have h0 : (F == 0) = true := by simp [hF]
    have HR : Hid (reachB F L key = true) := hideIt (by unfold reachB; rw [h0]; rfl)
    clear hF
    subst hW
    go_enter Tryz.func30, Tryz.ntmps30
    go_wp2
    go_ret
    exact ⟨by rw [HR.out]; rfl, HWB.out⟩
  · have h0 : (F == 0) = false := by simp [hF]
    cases L with
    | nil =>
      have HR : Hid (reachB F [] key = false) := hideIt (by unfold reachB; rw [h0]; rfl)
      clear hF
      subst hW
      go_enter Tryz.func30, Tryz.ntmps30
      go_wp2
      go_ret
      exact ⟨by rw [HR.out]; rfl, HWB.out⟩
    | cons x r =>
      have HR : Hid (reachB F (x :: r) key = Op.bytesLess x.1 key) := hideIt (by unfold reachB; rw [h0]; rfl)
      obtain ⟨b, off, rfl, _, d0, _, _⟩ := EntsIn.at HV.out (k := 0) (e := x) rfl
      rw [Nat.zero_mul, Nat.add_zero] at d0
      obtain ⟨n, hn, k1⟩ : ∃ n : Nat, n = (x :: r).length ∧ 0 < (n : Int) := ⟨_, rfl, by simp only [List.length_cons]; omega⟩
      rw [← hn] at c2 hW ⊢
      clear hF hl hn HV
      subst hW
      go_enter Tryz.func30, Tryz.ntmps30
      go_wp2
      go_ret
      exact ⟨by rw [HR.out]; rfl, HWB.out⟩

set_option maxRecDepth 100000 in
set_option maxHeartbeats 8000000 in
theorem mrTo_any (w : World) (A : Nat → Prop) (N F : Int) (vl : Value) (ab : Option Addr) (nb cb : Nat) (L : List Ent) (key : List UInt8) (hv : EntsIn w A vl L) (hl : L.length ≤ 1024) (hF : 0 ≤ F ∧ F ≤ 1024) :
    Calls Tryz.prog 31 #[.agg #[.int .i64 N, .int .i64 F, vl, .slice ab nb cb], .string ⟨key.toArray⟩] w fun e w' => e = .returned (.bool (reachT N F L key)) ∧ Below w.heap.size w w' := by
  obtain ⟨al, cl, rfl⟩ := hv.form
  obtain ⟨W, hW, hwb, hws, ⟨c0, c1, c2, c3⟩, _⟩ := room4 w 25 (.int .i64 N) (.int .i64 F) (.slice al L.length cl) (.slice ab nb cb)
  have HWB := hideIt hwb
  have HV := hideIt (RowIn.kept (RowIn.mono (A' := fun k => A k) hv (fun _ h _ => h)) (Kept.of_all hwb))
  have HL := hideIt (fun w => mrLast_any w N F al cl ab nb cb L hl hF)
  clear hv hwb hws
  obtain ⟨bl, hbl⟩ : ∃ bl, bl = reachE N F L := ⟨_, rfl⟩
  rw [← hbl] at HL
  cases bl with
  | true =>
    have HR : Hid (reachT N F L key = true) := hideIt (by unfold reachT; rw [← hbl]; rfl)
    clear hbl
    go_enter Tryz.func31, Tryz.ntmps31
    go_wp2_with fail
    rw [← hW]
    clear hW
    refine (HL.out W).mono ?_
    rintro e w1 ⟨rfl, hb1⟩
    have HB1 := hideIt (HWB.out.trans (hb1.mono HWB.out.size))
    clear hb1
    go_wp2
    go_ret
    exact ⟨by rw [HR.out]; rfl, HB1.out⟩
  | false =>
    cases L with
    | nil =>
      have HR : Hid (reachT N F [] key = false) := hideIt (by unfold reachT; rw [← hbl]; rfl)
      clear hbl
      go_enter Tryz.func31, Tryz.ntmps31
      go_wp2_with fail
      simp only [List.length_nil] at hW c2
      rw [← hW]
      clear hW
      refine (HL.out W).mono ?_
      rintro e w1 ⟨rfl, hb1⟩
      have HB1 := hideIt (HWB.out.trans (hb1.mono HWB.out.size))
      have d2 := (hb1.cell (lt_of_cell c2)).trans c2
      clear hb1
      go_wp2
      go_ret
      exact ⟨by rw [HR.out]; rfl, HB1.out⟩
    | cons x r =>
      obtain ⟨y, hy⟩ : ∃ y, (x :: r)[(x :: r).length - 1]? = some y := ⟨(x :: r)[(x :: r).length - 1], by simp⟩
      have HR : Hid (reachT N F (x :: r) key = !(Op.bytesLess y.1 key)) := hideIt (by unfold reachT; rw [← hbl, hy]; rfl)
      obtain ⟨b, off, rfl, _, d0, _, _⟩ := EntsIn.at HV.out hy
      obtain ⟨n, hn, k1, k2⟩ : ∃ n : Nat, n = (x :: r).length ∧ 0 < (n : Int) ∧ n ≤ 1024 := ⟨_, rfl, by simp only [List.length_cons]; omega, hl⟩
      rw [← hn] at c2 hW HL d0 ⊢
      obtain ⟨m, hm⟩ : ∃ m : Nat, n = m + 1 := ⟨n - 1, by omega⟩
      subst hm
      rw [Nat.add_sub_cancel] at d0
      have k3 : (m : Int) < (m : Int) + 1 := by omega
      clear hbl hl hn HV hy
      go_enter Tryz.func31, Tryz.ntmps31
      go_wp2_with fail
      rw [← hW]
      clear hW
      refine (HL.out W).mono ?_
      rintro e w1 ⟨rfl, hb1⟩
      have HB1 := hideIt (HWB.out.trans (hb1.mono HWB.out.size))
      have q2 := (hb1.cell (lt_of_cell c2)).trans c2
      have q0 := (hb1.cell (lt_of_cell d0)).trans d0
      clear hb1 c0 c1 c2 c3 d0
      go_wp2
      go_ret
      exact ⟨by rw [HR.out]; rfl, HB1.out⟩
def zeroE : Ent := ([], [], 0)
/-- the first entry of a key -/
def findE (L : List Ent) (key : List UInt8) : Option Ent := L.find? fun e => e.1 == key
theorem findE_snoc {L : List Ent} {key : List UInt8} {k : Nat} {e : Ent} (hn : findE (L.take k) key = none) (he : L[k]? = some e) (hne : e.1 ≠ key) : findE (L.take (k + 1)) key = none := by
  obtain ⟨hk, rfl⟩ := List.getElem?_eq_some_iff.1 he
  unfold findE at *
  rw [List.take_succ_eq_append_getElem hk, List.find?_append, hn]
  simp [hne]
theorem findE_here {L : List Ent} {key : List UInt8} {k : Nat} {e : Ent} (hn : findE (L.take k) key = none) (he : L[k]? = some e) (hne : e.1 = key) : findE L key = some e := by
  obtain ⟨hk, rfl⟩ := List.getElem?_eq_some_iff.1 he
  have h1 : findE L key = findE (L.take k ++ L.drop k) key := by rw [List.take_append_drop]
  rw [h1]
  unfold findE at *
  rw [List.find?_append, hn, List.drop_eq_getElem_cons hk]
  simp only [List.find?_cons, hne, beq_self_eq_true, Option.none_or]
/-- what Has finds -/
def HasRes (T : List (List UInt8)) (N F : Int) (L : List Ent) (Bs : List Int) (root : Int) (key : List UInt8) (c : Int) (x : Ent) (is : Bool) : Prop :=
  ∃ c0, ChkRes T N F L Bs root c0 ∧ ((c0 ≠ 0 ∧ c = c0 ∧ x = zeroE ∧ is = false) ∨ (c0 = 0 ∧ findE L key = some x ∧ is = true ∧ c = 0) ∨
    (c0 = 0 ∧ findE L key = none ∧ is = false ∧ x = zeroE ∧ c = if (reachB F L key && reachT N F L key) = true then 0 else 62))
/-- what Has answers -/
def HasPost (w : World) (p : Nat) (O : Nat → Prop) (T : List (List UInt8)) (N F : Int) (L : List Ent) (Bs : List Int) (root : Int) (key : List UInt8) (e : Ending) (w' : World) : Prop :=
  ∃ (er : Value) (c : Int) (x : Ent) (is : Bool) (O' : Nat → Prop) (T' : List (List UInt8)), e = .returned (.tuple #[entV x, .bool is, er]) ∧ Bk w' p O' T' ∧ Goes w O T w' O' T' 2048 ∧ ErrM w' (fun k => w.heap.size ≤ k ∧ ¬ O' k) er c ∧ HasRes T' N F L Bs root key c x is

/-- Has's rooms -/
theorem rooms34 (w : World) (t1 t2 : TypeId) (x y z a b c d : Value) : ∃ W, W = (w.alloc (.cells #[a, b, c, d] t1)).alloc (.cells #[x, y, z] t2) ∧ Below w.heap.size w W ∧ W.heap.size = w.heap.size + 2 ∧
    (W.cell? ⟨w.heap.size, 0, none⟩ = some a ∧ W.cell? ⟨w.heap.size, 1, none⟩ = some b ∧ W.cell? ⟨w.heap.size, 2, none⟩ = some c ∧ W.cell? ⟨w.heap.size, 3, none⟩ = some d) ∧
    (W.cell? ⟨w.heap.size + 1, 0, none⟩ = some x ∧ W.cell? ⟨w.heap.size + 1, 1, none⟩ = some y ∧ W.cell? ⟨w.heap.size + 1, 2, none⟩ = some z) ∧ ∀ j, W.frozen? ⟨w.heap.size + 1, j, none⟩ = false := by
  have e1 : (w.alloc (.cells #[a, b, c, d] t1)).heap.size = w.heap.size + 1 := by simp
  refine ⟨_, rfl, ((Below.refl _ _).alloc (Nat.le_refl _) _).alloc (by simp) _, by simp, ⟨?_, ?_, ?_, ?_⟩, ⟨?_, ?_, ?_⟩, fun j => World.frozen?_alloc_at _ _ _ _ e1.symm⟩
  · rw [World.cell?_alloc_lt _ _ _ (by rw [e1]; show w.heap.size < _; omega), World.cell?_alloc_at _ _ _ _ rfl]; rfl
  · rw [World.cell?_alloc_lt _ _ _ (by rw [e1]; show w.heap.size < _; omega), World.cell?_alloc_at _ _ _ _ rfl]; rfl
  · rw [World.cell?_alloc_lt _ _ _ (by rw [e1]; show w.heap.size < _; omega), World.cell?_alloc_at _ _ _ _ rfl]; rfl
  · rw [World.cell?_alloc_lt _ _ _ (by rw [e1]; show w.heap.size < _; omega), World.cell?_alloc_at _ _ _ _ rfl]; rfl
  · rw [World.cell?_alloc_at _ _ _ _ e1.symm]; rfl
  · rw [World.cell?_alloc_at _ _ _ _ e1.symm]; rfl
  · rw [World.cell?_alloc_at _ _ _ _ e1.symm]; rfl

/-- a result room of three cells, written -/
theorem room3_put (w : World) (q : Nat) (x y z X Y Z : Value) (h : w.cell? ⟨q, 0, none⟩ = some x ∧ w.cell? ⟨q, 1, none⟩ = some y ∧ w.cell? ⟨q, 2, none⟩ = some z) :
    let W := ((w.setCell ⟨q, 0, none⟩ X).setCell ⟨q, 1, none⟩ Y).setCell ⟨q, 2, none⟩ Z
    (W.cell? ⟨q, 0, none⟩ = some X ∧ W.cell? ⟨q, 1, none⟩ = some Y ∧ W.cell? ⟨q, 2, none⟩ = some Z) ∧ w.grownBy W (some q) := by
  obtain ⟨c0, c1, c2⟩ := h
  intro W
  refine ⟨⟨?_, ?_, ?_⟩, grown_set (grown_set (grown_set (grown_refl _ _) _ _) _ _) _ _⟩
  · rw [World.cell?_setCell_other _ _ _ _ (by simp), World.cell?_setCell_other _ _ _ _ (by simp)]
    exact World.cell?_setCell_same _ _ _ c0
  · rw [World.cell?_setCell_other _ _ _ _ (by simp)]
    exact World.cell?_setCell_same _ _ _ (by rw [World.cell?_setCell_other _ _ _ _ (by simp)]; exact c1)
  · exact World.cell?_setCell_same _ _ _ (by rw [World.cell?_setCell_other _ _ _ _ (by simp), World.cell?_setCell_other _ _ _ _ (by simp)]; exact c2)
theorem has_fin {w w' W4 : World} {p q : Nat} {O O' : Nat → Prop} {T T' : List (List UInt8)} {N F root c : Int} {L : List Ent} {Bs : List Int} {key : List UInt8} {er : Value} {x : Ent} {is : Bool} (hq1 : w.heap.size ≤ q) (hq2 : q < w.heap.size + 2) (hq3 : ¬ O' q)
    (g1 : Bk w' p O' T') (g2 : Goes w O T w' O' T' 2048) (he : ErrM w' (fun k => w.heap.size + 2 ≤ k ∧ ¬ O' k) er c) (hgr : w'.grownBy W4 (some q)) (hr : HasRes T' N F L Bs root key c x is) : HasPost w p O T N F L Bs root key (.returned (.tuple #[entV x, .bool is, er])) W4 := by
  refine ⟨er, c, x, is, O', T', rfl, g1.append hgr (fun g e => by cases e; exact hq3), g2.append hgr (fun g e => by cases e; exact hq1), ?_, hr⟩
  rcases he with he | ⟨h1, h2⟩
  · exact Or.inl he
  · exact Or.inr ⟨h1, (h2.kept (Kept.of_grown hgr (fun h => by omega))).mono (fun k hk _ => ⟨by omega, hk.2⟩)⟩

set_option maxRecDepth 100000 in
set_option maxHeartbeats 8000000 in
theorem mHas_any (w : World) (p : Nat) (O : Nat → Prop) (T : List (List UInt8)) (root N F : Int) (vl vb : Value) (L : List Ent) (Bs : List Int) (key : List UInt8) (h : Bk w p O T) (hp : ProofOk w O N F vl vb L Bs) (hT : T.length + 2048 ≤ 65536) :
    Calls Tryz.prog 18 #[.pointer (some ⟨p, 0, none⟩), .int .i64 root, .string ⟨key.toArray⟩, .agg #[.int .i64 N, .int .i64 F, vl, vb]] w (HasPost w p O T N F L Bs root key) := by
  have H := hideIt (And.intro h hp)
  have HT := hideIt hT
  obtain ⟨al, cl, rfl⟩ := hp.ap.1.form
  obtain ⟨ab, cb, rfl⟩ := NumsIn.form hp.ap.2
  obtain ⟨W, hW, hwb, hws, ⟨c0, c1, c2, c3⟩, ⟨z0, z1, z2⟩, zf⟩ := rooms34 w 25 42 (.string ⟨#[]⟩) (.string ⟨#[]⟩) (.int .i64 0) (.int .i64 N) (.int .i64 F) (.slice al L.length cl) (.slice ab Bs.length cb)
  have HC := hideIt (mCheck_any W p O T root N F (.slice al L.length cl) (.slice ab Bs.length cb) L Bs (h.next hwb) (hp.next hwb) hT)
  have HWB := hideIt hwb
  have HWS := hideIt hws
  have HNO : Hid (¬ O w.heap.size ∧ ¬ O (w.heap.size + 1)) := hideIt ⟨fun o => by have := h.2 _ o; omega, fun o => by have := h.2 _ o; omega⟩
  clear h hp hT hwb hws
  go_enter Tryz.func18, Tryz.ntmps18
  go_wp2_with fail
  rw [← hW]
  clear hW
  refine HC.out.mono ?_
  rintro e w1 ⟨er, cc, O1, T1, rfl, g1, g2, g3, g4⟩
  have hz : (w1.heap[w.heap.size + 1]?) = W.heap[w.heap.size + 1]? := g2.turn.block _ (lt_of_cell z0) HNO.out.2
  have d0 := g2.cell c0 HNO.out.1
  have d1 := g2.cell c1 HNO.out.1
  have d2 := g2.cell c2 HNO.out.1
  have d3 := g2.cell c3 HNO.out.1
  have y0 := (World.cell?_of_block (a := ⟨w.heap.size + 1, 0, none⟩) hz).trans z0
  have y1 := (World.cell?_of_block (a := ⟨w.heap.size + 1, 1, none⟩) hz).trans z1
  have y2 := (World.cell?_of_block (a := ⟨w.heap.size + 1, 2, none⟩) hz).trans z2
  have yf := fun j => (World.frozen?_of_block (a := ⟨w.heap.size + 1, j, none⟩) hz).trans (zf j)
  have HG := hideIt (And.intro g1 (And.intro g2 (And.intro g3 g4)))
  clear hz g1 g2 g4 c0 c1 c2 c3 z0 z1 z2 zf HC
  have HQ : Hid (¬ O1 (w.heap.size + 1)) := hideIt (HG.out.2.1.not (by have := HWS.out; omega) HNO.out.2)
  have HYF := hideIt yf
  clear yf
  rcases g3 with ⟨rfl, rfl⟩ | ⟨hcc, ho⟩
  · have HBK := hideIt (H.out.2.next HWB.out)
    have HP1 := hideIt (HBK.out.goes HG.out.2.1)
    have HLL : Hid (L.length ≤ 1024 ∧ 0 ≤ F ∧ F ≤ 1024) := hideIt (by
      rcases HG.out.2.2.2 with ⟨_, hs, _⟩ | ⟨e, _⟩ | ⟨e, _⟩
      · exact ⟨hs.2.1.1, hs.2.2.1.1, by have := hs.1; have := hs.2.2.1; omega⟩
      · cases e
      · cases e)
    have hll := HLL.out.1
    go_wp2_with fail
    go_loopw [25] (fun i wr => ∃ k : Nat, k ≤ L.length ∧ i = .int .i64 k ∧ Hid (findE (L.take k) key = none) ∧ Hid (Below w1.heap.size w1 wr)) (fun i _ => L.length - (intOf i).toNat)
    case atStart => exact ⟨0, Nat.zero_le _, rfl, rfl, Below.refl _ _⟩
    case round =>
      obtain ⟨k, hk, rfl, HN, HB⟩ := hrel
      have t0 := (HB.out.cell (lt_of_cell y0)).trans y0
      have t1 := (HB.out.cell (lt_of_cell y1)).trans y1
      have t2 := (HB.out.cell (lt_of_cell y2)).trans y2
      have tf := fun j => (World.frozen?_of_block (a := ⟨w.heap.size + 1, j, none⟩) (HB.out.block _ (lt_of_cell (a := ⟨w.heap.size + 1, 0, none⟩) y0))).trans (HYF.out j)
      by_cases hlt : k < L.length
      · obtain ⟨x, hx⟩ : ∃ x, L[k]? = some x := ⟨L[k], by simp [hlt]⟩
        have HEN := hideIt ((HP1.out.next HB.out).ap.1)
        obtain ⟨b, off, rfl, _, e0, e1, e2⟩ := EntsIn.at HEN.out hx
        have hwb := (Below.refl wr.heap.size wr).alloc (Nat.le_refl _) (.cells #[.string ⟨x.1.toArray⟩, .string ⟨x.2.1.toArray⟩, .int .i64 x.2.2] 42)
        have HWB2 := hideIt (HB.out.trans (hwb.mono HB.out.size))
        have HXX := hideIt hx
        by_cases hxk : x.1 = key
        · have hq : (x.1 == key) = true := by simp [hxk]
          have HF : Hid (findE L key = some x) := hideIt (findE_here HN.out hx hxk)
          have s0 := (hwb.cell (lt_of_cell t0)).trans t0
          have s1 := (hwb.cell (lt_of_cell t1)).trans t1
          have s2 := (hwb.cell (lt_of_cell t2)).trans t2
          have sf := fun j => (World.frozen?_of_block (a := ⟨w.heap.size + 1, j, none⟩) (hwb.block _ (lt_of_cell (a := ⟨w.heap.size + 1, 0, none⟩) t0))).trans (tf j)
          have sf0 := sf 0
          have sf1 := sf 1
          have sf2 := sf 2
          have hput := room3_put _ (w.heap.size + 1) _ _ _ (.string ⟨x.1.toArray⟩) (.string ⟨x.2.1.toArray⟩) (.int .i64 x.2.2) ⟨s0, s1, s2⟩
          have HPUT := hideIt hput
          clear hput sf tf hx hxk hwb
          go_wp2
          obtain ⟨⟨v0, v1, v2⟩, hgr⟩ := HPUT.out
          generalize (((wr.alloc (.cells #[.string ⟨x.1.toArray⟩, .string ⟨x.2.1.toArray⟩, .int .i64 x.2.2] 42)).setCell ⟨w.heap.size + 1, 0, none⟩ (.string ⟨x.1.toArray⟩)).setCell ⟨w.heap.size + 1, 1, none⟩ (.string ⟨x.2.1.toArray⟩)).setCell ⟨w.heap.size + 1, 2, none⟩ (.int .i64 x.2.2) = W4 at v0 v1 v2 hgr ⊢
          refine bodyPost_ret (v := .tuple #[entV x, .bool true, .nilIface]) (by simp [results, Tryz.results18, go_sem, v0, v1, v2, entV]) rfl ?_
          have hg := (Goes.pre HWB.out HG.out.2.1).trans (Goes.of_below HWB2.out)
          exact has_fin (by omega) (by omega) HQ.out (HG.out.1.next HWB2.out) (hg.more (by omega)) (Or.inl ⟨rfl, rfl⟩) hgr ⟨0, HG.out.2.2.2, Or.inr (Or.inl ⟨rfl, HF.out, rfl, rfl⟩)⟩
        · have hq : (x.1 == key) = false := by simp [hxk]
          have HF : Hid (findE (L.take (k + 1)) key = none) := hideIt (findE_snoc HN.out hx hxk)
          clear hx hxk hwb tf t0 t1 t2
          go_wp2
          exact ⟨⟨k + 1, by omega, by go_num, HF, HWB2.out⟩, by simp [intOf]; omega⟩
      · have HF : Hid (findE L key = none) := hideIt (by have := HN.out; rw [show k = L.length by omega, List.take_length] at this; exact this)
        have r0 := (HB.out.cell (lt_of_cell d0)).trans d0
        have r1 := (HB.out.cell (lt_of_cell d1)).trans d1
        have r2 := (HB.out.cell (lt_of_cell d2)).trans d2
        have r3 := (HB.out.cell (lt_of_cell d3)).trans d3
        go_wp2_with fail
        refine (mrBelow_any wr _ N F _ ab Bs.length cb L key (HP1.out.next HB.out).ap.1 HLL.out.1).mono ?_
        rintro e w3 ⟨rfl, hb3⟩
        have HB3 := hideIt (HB.out.trans (hb3.mono HB.out.size))
        have p0 := (hb3.cell (lt_of_cell r0)).trans r0
        have p1 := (hb3.cell (lt_of_cell r1)).trans r1
        have p2 := (hb3.cell (lt_of_cell r2)).trans r2
        have p3 := (hb3.cell (lt_of_cell r3)).trans r3
        clear hb3 r0 r1 r2 r3 t0 t1 t2 tf d0 d1 d2 d3
        obtain ⟨bb, hbb⟩ : ∃ bb, bb = reachB F L key := ⟨_, rfl⟩
        rw [← hbb]
        have HBB := hideIt hbb
        clear hbb
        cases bb with
        | false =>
          have HRR : Hid ((reachB F L key && reachT N F L key) = false) := hideIt (by rw [← HBB.out]; rfl)
          go_wp2_with fail
          refine (mwrong_any w3 62 (by decide)).mono ?_
          rintro e w5 ⟨er5, rfl, ho5, hb5⟩
          obtain ⟨ty, y, rfl⟩ := ho5.iface
          have HO5 := hideIt ho5
          have HB5 := hideIt (HB3.out.trans (hb5.mono HB3.out.size))
          have hblk : w5.heap[w.heap.size + 1]? = w1.heap[w.heap.size + 1]? := HB5.out.block _ (lt_of_cell (a := ⟨w.heap.size + 1, 0, none⟩) y0)
          have s0 := (World.cell?_of_block (a := ⟨w.heap.size + 1, 0, none⟩) hblk).trans y0
          have s1 := (World.cell?_of_block (a := ⟨w.heap.size + 1, 1, none⟩) hblk).trans y1
          have s2 := (World.cell?_of_block (a := ⟨w.heap.size + 1, 2, none⟩) hblk).trans y2
          have sf0 := (World.frozen?_of_block (a := ⟨w.heap.size + 1, 0, none⟩) hblk).trans (HYF.out 0)
          have sf1 := (World.frozen?_of_block (a := ⟨w.heap.size + 1, 1, none⟩) hblk).trans (HYF.out 1)
          have sf2 := (World.frozen?_of_block (a := ⟨w.heap.size + 1, 2, none⟩) hblk).trans (HYF.out 2)
          have hput := room3_put w5 (w.heap.size + 1) _ _ _ (.string ⟨#[]⟩) (.string ⟨#[]⟩) (.int .i64 0) ⟨s0, s1, s2⟩
          have HPUT := hideIt hput
          clear ho5 hb5 hput hblk
          go_wp2
          obtain ⟨⟨v0, v1, v2⟩, hgr⟩ := HPUT.out
          generalize ((w5.setCell ⟨w.heap.size + 1, 0, none⟩ (.string ⟨#[]⟩)).setCell ⟨w.heap.size + 1, 1, none⟩ (.string ⟨#[]⟩)).setCell ⟨w.heap.size + 1, 2, none⟩ (.int .i64 0) = W4 at v0 v1 v2 hgr ⊢
          refine bodyPost_ret (v := .tuple #[entV zeroE, .bool false, .iface ty y]) (by simp [results, Tryz.results18, go_sem, v0, v1, v2, entV, zeroE]) rfl ?_
          have hg := (Goes.pre HWB.out HG.out.2.1).trans (Goes.of_below HB5.out)
          have HBX := hideIt HB3.out.size
          have hs : w.heap.size + 2 ≤ w3.heap.size := by
            have := HWS.out
            have := HG.out.2.1.turn.size
            have := HB3.out.size
            omega
          exact has_fin (by omega) (by omega) HQ.out (HG.out.1.next HB5.out) (hg.more (by omega)) (Or.inr ⟨by decide, HO5.out.mono (fun k hk _ => ⟨by omega, fun o => by have := HG.out.1.2 _ o; have := HBX.out; omega⟩)⟩) hgr ⟨0, HG.out.2.2.2, Or.inr (Or.inr ⟨rfl, HF.out, rfl, rfl, by rw [HRR.out]; rfl⟩)⟩
        | true =>
          go_wp2_with fail
          refine (mrTo_any w3 _ N F _ ab Bs.length cb L key (HP1.out.next HB3.out).ap.1 HLL.out.1 HLL.out.2).mono ?_
          rintro e w4 ⟨rfl, hb4⟩
          have HB4 := hideIt (HB3.out.trans (hb4.mono HB3.out.size))
          clear hb4 p0 p1 p2 p3
          obtain ⟨tt, htt⟩ : ∃ tt, tt = reachT N F L key := ⟨_, rfl⟩
          rw [← htt]
          have HRR : Hid ((reachB F L key && reachT N F L key) = tt) := hideIt (by rw [← HBB.out, htt]; rfl)
          clear htt
          cases tt with
          | false =>
            go_wp2_with fail
            refine (mwrong_any w4 62 (by decide)).mono ?_
            rintro e w5 ⟨er5, rfl, ho5, hb5⟩
            obtain ⟨ty, y, rfl⟩ := ho5.iface
            have HO5 := hideIt ho5
            have HB5 := hideIt (HB4.out.trans (hb5.mono HB4.out.size))
            have hblk : w5.heap[w.heap.size + 1]? = w1.heap[w.heap.size + 1]? := HB5.out.block _ (lt_of_cell (a := ⟨w.heap.size + 1, 0, none⟩) y0)
            have s0 := (World.cell?_of_block (a := ⟨w.heap.size + 1, 0, none⟩) hblk).trans y0
            have s1 := (World.cell?_of_block (a := ⟨w.heap.size + 1, 1, none⟩) hblk).trans y1
            have s2 := (World.cell?_of_block (a := ⟨w.heap.size + 1, 2, none⟩) hblk).trans y2
            have sf0 := (World.frozen?_of_block (a := ⟨w.heap.size + 1, 0, none⟩) hblk).trans (HYF.out 0)
            have sf1 := (World.frozen?_of_block (a := ⟨w.heap.size + 1, 1, none⟩) hblk).trans (HYF.out 1)
            have sf2 := (World.frozen?_of_block (a := ⟨w.heap.size + 1, 2, none⟩) hblk).trans (HYF.out 2)
            have hput := room3_put w5 (w.heap.size + 1) _ _ _ (.string ⟨#[]⟩) (.string ⟨#[]⟩) (.int .i64 0) ⟨s0, s1, s2⟩
            have HPUT := hideIt hput
            clear ho5 hb5 hput hblk
            go_wp2
            obtain ⟨⟨v0, v1, v2⟩, hgr⟩ := HPUT.out
            generalize ((w5.setCell ⟨w.heap.size + 1, 0, none⟩ (.string ⟨#[]⟩)).setCell ⟨w.heap.size + 1, 1, none⟩ (.string ⟨#[]⟩)).setCell ⟨w.heap.size + 1, 2, none⟩ (.int .i64 0) = W4 at v0 v1 v2 hgr ⊢
            refine bodyPost_ret (v := .tuple #[entV zeroE, .bool false, .iface ty y]) (by simp [results, Tryz.results18, go_sem, v0, v1, v2, entV, zeroE]) rfl ?_
            have hg := (Goes.pre HWB.out HG.out.2.1).trans (Goes.of_below HB5.out)
            have HBX := hideIt HB4.out.size
            have hs : w.heap.size + 2 ≤ w4.heap.size := by
              have := HWS.out
              have := HG.out.2.1.turn.size
              have := HB4.out.size
              omega
            exact has_fin (by omega) (by omega) HQ.out (HG.out.1.next HB5.out) (hg.more (by omega)) (Or.inr ⟨by decide, HO5.out.mono (fun k hk _ => ⟨by omega, fun o => by have := HG.out.1.2 _ o; have := HBX.out; omega⟩)⟩) hgr ⟨0, HG.out.2.2.2, Or.inr (Or.inr ⟨rfl, HF.out, rfl, rfl, by rw [HRR.out]; rfl⟩)⟩
          | true =>
            have hblk : w4.heap[w.heap.size + 1]? = w1.heap[w.heap.size + 1]? := HB4.out.block _ (lt_of_cell (a := ⟨w.heap.size + 1, 0, none⟩) y0)
            have s0 := (World.cell?_of_block (a := ⟨w.heap.size + 1, 0, none⟩) hblk).trans y0
            have s1 := (World.cell?_of_block (a := ⟨w.heap.size + 1, 1, none⟩) hblk).trans y1
            have s2 := (World.cell?_of_block (a := ⟨w.heap.size + 1, 2, none⟩) hblk).trans y2
            have sf0 := (World.frozen?_of_block (a := ⟨w.heap.size + 1, 0, none⟩) hblk).trans (HYF.out 0)
            have sf1 := (World.frozen?_of_block (a := ⟨w.heap.size + 1, 1, none⟩) hblk).trans (HYF.out 1)
            have sf2 := (World.frozen?_of_block (a := ⟨w.heap.size + 1, 2, none⟩) hblk).trans (HYF.out 2)
            have hput := room3_put w4 (w.heap.size + 1) _ _ _ (.string ⟨#[]⟩) (.string ⟨#[]⟩) (.int .i64 0) ⟨s0, s1, s2⟩
            have HPUT := hideIt hput
            clear hput hblk
            go_wp2
            obtain ⟨⟨v0, v1, v2⟩, hgr⟩ := HPUT.out
            generalize ((w4.setCell ⟨w.heap.size + 1, 0, none⟩ (.string ⟨#[]⟩)).setCell ⟨w.heap.size + 1, 1, none⟩ (.string ⟨#[]⟩)).setCell ⟨w.heap.size + 1, 2, none⟩ (.int .i64 0) = W4 at v0 v1 v2 hgr ⊢
            refine bodyPost_ret (v := .tuple #[entV zeroE, .bool false, .nilIface]) (by simp [results, Tryz.results18, go_sem, v0, v1, v2, entV, zeroE]) rfl ?_
            have hg := (Goes.pre HWB.out HG.out.2.1).trans (Goes.of_below HB4.out)
            exact has_fin (by omega) (by omega) HQ.out (HG.out.1.next HB4.out) (hg.more (by omega)) (Or.inl ⟨rfl, rfl⟩) hgr ⟨0, HG.out.2.2.2, Or.inr (Or.inr ⟨rfl, HF.out, rfl, rfl, by rw [HRR.out]; rfl⟩)⟩
  · obtain ⟨ty, y, rfl⟩ := ho.iface
    have f0 := HYF.out 0
    have f1 := HYF.out 1
    have f2 := HYF.out 2
    have HO := hideIt (And.intro hcc ho)
    have hput := room3_put w1 (w.heap.size + 1) _ _ _ (.string ⟨#[]⟩) (.string ⟨#[]⟩) (.int .i64 0) ⟨y0, y1, y2⟩
    have HPUT := hideIt hput
    clear ho hcc hput
    go_wp2
    obtain ⟨⟨v0, v1, v2⟩, hgr⟩ := HPUT.out
    generalize ((w1.setCell ⟨w.heap.size + 1, 0, none⟩ (.string ⟨#[]⟩)).setCell ⟨w.heap.size + 1, 1, none⟩ (.string ⟨#[]⟩)).setCell ⟨w.heap.size + 1, 2, none⟩ (.int .i64 0) = W4 at v0 v1 v2 hgr ⊢
    refine bodyPost_ret (v := .tuple #[entV zeroE, .bool false, .iface ty y]) (by simp [results, Tryz.results18, go_sem, v0, v1, v2, entV, zeroE]) rfl ?_
    have hs := HWS.out
    exact has_fin (by omega) (by omega) HQ.out HG.out.1 (Goes.pre HWB.out HG.out.2.1) (Or.inr ⟨HO.out.1, HO.out.2.mono (fun k hk _ => ⟨by have := hk.1; omega, hk.2⟩)⟩) hgr ⟨cc, HG.out.2.2.2, Or.inl ⟨HO.out.1, rfl, rfl, rfl⟩⟩
end Go.Proofs.YtmhbfplaglipnaaGreatDoor
