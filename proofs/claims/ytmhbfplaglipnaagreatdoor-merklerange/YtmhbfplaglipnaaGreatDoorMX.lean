/-
  What is proved here: the statements' own great and greatProof, and the document's Same (cohortlaw06, cohortref06), over this program.
-/
import Derived.Test.YtmhbfplaglipnaaGreatDoorMW
namespace Go.Proofs.YtmhbfplaglipnaaGreatDoor
open Go.RowKit Go.Extern.Stop Go.Stop Go.Extern

def wgtE (l : List Ent) : Nat := (l.map fun e => 10 + min e.1.length 60000 + min e.2.1.length 60000).sum
theorem wgtE_take (l : List Ent) (k : Nat) (x : Ent) (hx : l[k]? = some x) : wgtE (l.take (k + 1)) = wgtE (l.take k) + (10 + min x.1.length 60000 + min x.2.1.length 60000) := by
  have hlt : k < l.length := (List.getElem?_eq_some_iff.1 hx).1
  have he : l[k] = x := (List.getElem?_eq_some_iff.1 hx).2
  unfold wgtE
  rw [List.take_succ_eq_append_getElem hlt, he]; simp
theorem wgtE_len (l : List Ent) : 10 * l.length ≤ wgtE l := by
  induction l with
  | nil => simp [wgtE]
  | cons x r ih => simp only [wgtE, List.map_cons, List.sum_cons, List.length_cons] at ih ⊢; omega
/-- what great answers: no only where the entries are few -/
def LightE (l : List Ent) (e : Ending) : Prop := ∃ g : Bool, e = .returned (.bool g) ∧ (g = false → l.length ≤ 6000)

set_option maxRecDepth 100000 in
set_option maxHeartbeats 4000000 in
theorem great06_any (A : Nat → Prop) (sl : Value) (l : List Ent) (w : World) (hs : EntsIn w A sl l) (hlen : l.length ≤ maxLen) (hsz : ∀ x ∈ l, x.1.length ≤ maxLen ∧ x.2.1.length ≤ maxLen) :
    Calls Tryz.prog 12 #[sl] w fun e w' => LightE l e ∧ Below w.heap.size w w' := by
  have HS := hideIt (hs.mono (A' := (· < w.heap.size)) (fun _ _ h => h))
  obtain ⟨a, cap, rfl⟩ := hs.form
  have HZ := hideIt hsz
  unfold maxLen at hlen
  clear hs hsz
  go_enter Tryz.func12, Tryz.ntmps12
  go_wp2
  go_loopw [3, 4] (fun n i wr => ∃ k : Nat, k ≤ l.length ∧ i = .int .i64 k ∧ n = .int .i64 (wgtE (l.take k)) ∧ wgtE (l.take k) ≤ 200000 ∧ Hid (Below w.heap.size w wr)) (fun _ i _ => l.length - (intOf i).toNat)
  case atStart => exact ⟨0, Nat.zero_le _, rfl, rfl, by simp [wgtE], Below.refl _ _⟩
  case round =>
    obtain ⟨k, hk, rfl, rfl, hw0, HBW⟩ := hrel
    have HSW : Hid (EntsIn wr (· < w.heap.size) (.slice a l.length cap) l) := hideIt (RowIn.kept HS.out (Kept.of_below HBW.out (fun _ h _ => h)))
    have hw : ((wgtE (l.take k) : Nat) : Int) ≤ 200000 := by omega
    clear hw0
    by_cases hlt : k < l.length
    · by_cases hn : ((wgtE (l.take k) : Nat) : Int) < 60000
      · obtain ⟨x, hx⟩ : ∃ x, l[k]? = some x := ⟨l[k], by simp [hlt]⟩
        obtain ⟨b, off, rfl, _, c0, c1, _⟩ := EntsIn.at HSW.out hx
        have hxs := (HZ.out x (List.mem_of_getElem? hx)).1
        have hxs2 := (HZ.out x (List.mem_of_getElem? hx)).2
        unfold maxLen at hxs hxs2
        have HW := hideIt (wgtE_take l k x hx)
        clear hx
        go_wp2_with fail
        go_quiet (fail)
        have HB2 := hideIt (HBW.out.trans ((below_drewN wr nq).mono HBW.out.size))
        go_wp2
        have h1 := HW.out
        refine ⟨⟨k + 1, by omega, by go_num, congrArg (Value.int .i64) (by omega), by omega, HB2.out⟩, by simp [intOf]; omega⟩
      · go_wp2
        go_ret
        exact ⟨⟨_, rfl, fun h => by simp at h⟩, HBW.out⟩
    · have ek : k = l.length := by omega
      have HE := hideIt ek
      clear ek
      by_cases hn : 60000 ≤ ((wgtE (l.take k) : Nat) : Int)
      · go_wp2
        go_ret
        exact ⟨⟨_, rfl, fun h => by simp at h⟩, HBW.out⟩
      · go_wp2
        go_ret
        refine ⟨⟨_, rfl, fun h => ?_⟩, HBW.out⟩
        have := HE.out
        subst this
        rw [List.take_length] at hn
        have := wgtE_len l
        omega

/-- what greatProof answers -/
def LightP (L : List Ent) (e : Ending) : Prop := ∃ g : Bool, e = .returned (.bool g) ∧ (g = false → L.length ≤ 6000)
set_option maxRecDepth 100000 in
set_option maxHeartbeats 4000000 in
theorem greatP06_any (A : Nat → Prop) (N F : Int) (vl : Value) (ab : Option Addr) (nb cb : Nat) (L : List Ent) (w : World) (hs : EntsIn w A vl L) (hlen : L.length ≤ maxLen) (hsz : ∀ x ∈ L, x.1.length ≤ maxLen ∧ x.2.1.length ≤ maxLen) (_hnb : nb ≤ maxLen) :
    Calls Tryz.prog 13 #[.agg #[.int .i64 N, .int .i64 F, vl, .slice ab nb cb]] w fun e w' => LightP L e ∧ Below w.heap.size w w' := by
  obtain ⟨al, cl, rfl⟩ := hs.form
  obtain ⟨W, hW, hwb, hws, ⟨c0, c1, c2, c3⟩, _⟩ := room4 w 25 (.int .i64 N) (.int .i64 F) (.slice al L.length cl) (.slice ab nb cb)
  have HWB := hideIt hwb
  have HG := hideIt (great06_any A (.slice al L.length cl) L W (RowIn.kept (RowIn.mono (A' := fun k => A k) hs (fun _ h _ => h)) (Kept.of_all hwb)) hlen hsz)
  clear hs hwb hws hsz hlen
  go_enter Tryz.func13, Tryz.ntmps13
  go_wp2_with fail
  rw [← hW]
  clear hW
  refine HG.out.mono ?_
  rintro e w1 ⟨⟨g, rfl, hg⟩, hb1⟩
  have HB1 := hideIt (HWB.out.trans (hb1.mono HWB.out.size))
  have q3 := (hb1.cell (lt_of_cell c3)).trans c3
  clear hb1
  have HGG := hideIt hg
  clear hg
  cases g with
  | true =>
    go_wp2
    go_ret
    exact ⟨⟨_, rfl, fun h => (nomatch h)⟩, HB1.out⟩
  | false =>
    go_wp2
    go_ret
    exact ⟨⟨_, rfl, fun _ => by first | exact HGG.out rfl | exact HGG.out trivial | exact HGG.out⟩, HB1.out⟩

theorem ent_ext (x y : Ent) : x = y ↔ x.1 = y.1 ∧ x.2.1 = y.2.1 ∧ x.2.2 = y.2.2 := by
  obtain ⟨a, b, c⟩ := x
  obtain ⟨a', b', c'⟩ := y
  simp
theorem eql_ent (x y : Ent) (w : World) : (Op.equalIn 10000 42 (.agg #[.string ⟨x.1.toArray⟩, .string ⟨x.2.1.toArray⟩, .int .i64 x.2.2]) (.agg #[.string ⟨y.1.toArray⟩, .string ⟨y.2.1.toArray⟩, .int .i64 y.2.2])).run Tryz.prog w = .ok (decide (x = y)) w := by
  have u3 := Tryz.underlying2
  have a3 := Tryz.isAgg2
  have z3 := Tryz.sizeOf2
  have u9 := Tryz.underlying9
  have a9 := Tryz.isAgg9
  have z9 := Tryz.sizeOf9
  have hS : Tryz.prog.underlying 42 = some (.struct (Tryz.prog.fieldsOf 42)) := by kernel_rfl
  have hp : Tryz.prog.stoodInHeld 42 = false := by kernel_rfl
  rw [show (10000 : Nat) = 9999 + 1 from rfl, run_equalIn_agg w 9999 42 _ _ hS hp]
  simp only [Program.fieldsOf, Tryz.underlying42]
  go_simp
  have e := ent_ext x y
  by_cases h1 : x.1 = y.1 <;> by_cases h2 : x.2.1 = y.2.1 <;> by_cases h3 : x.2.2 = y.2.2 <;> simp [h1, h2, h3, e]
theorem neq_ent (x y : Ent) (w : World) : (binOp .neq 42 (.agg #[.string ⟨x.1.toArray⟩, .string ⟨x.2.1.toArray⟩, .int .i64 x.2.2]) (.agg #[.string ⟨y.1.toArray⟩, .string ⟨y.2.1.toArray⟩, .int .i64 y.2.2])).run Tryz.prog w = .ok (.bool (!decide (x = y))) w := by
  rw [run_neq_struct, eql_ent]; simp [Result.andThen]
theorem eq_ent (x y : Ent) (w : World) : (binOp .eql 42 (.agg #[.string ⟨x.1.toArray⟩, .string ⟨x.2.1.toArray⟩, .int .i64 x.2.2]) (.agg #[.string ⟨y.1.toArray⟩, .string ⟨y.2.1.toArray⟩, .int .i64 y.2.2])).run Tryz.prog w = .ok (.bool (decide (x = y))) w := by
  rw [run_eql_struct, eql_ent]; simp [Result.andThen]
set_option maxRecDepth 100000 in
set_option maxHeartbeats 4000000 in
theorem Same06_any (A A2 : Nat → Prop) (va vb : Value) (a b : List Ent) (w : World) (ha : EntsIn w A va a) (hb : EntsIn w A2 vb b) (hl : a.length ≤ maxLen) :
    Calls Tryz.prog 16 #[va, vb] w fun e w' => e = .returned (.bool (decide (a = b))) ∧ Below w.heap.size w w' := by
  have HA := hideIt (ha.mono (A' := (· < w.heap.size)) (fun _ _ h => h))
  have HB := hideIt (hb.mono (A' := (· < w.heap.size)) (fun _ _ h => h))
  obtain ⟨aa, ca, rfl⟩ := ha.form
  obtain ⟨ab, cb, rfl⟩ := EntsIn.form hb
  unfold maxLen at hl
  clear ha hb
  by_cases hne : a.length = b.length
  · have HL := hideIt hne
    obtain ⟨n, hn⟩ : ∃ n, n = b.length := ⟨_, rfl⟩
    rw [← hn] at HB ⊢
    have HNB := hideIt hn
    have hna : n = a.length := by omega
    rw [hna] at HB ⊢
    clear hne hn hna
    go_enter Tryz.func16, Tryz.ntmps16
    go_wp2
    go_loopw [5] (fun i wr => ∃ k : Nat, k ≤ a.length ∧ i = .int .i64 k ∧ Hid (a.take k = b.take k) ∧ Hid (Below w.heap.size w wr)) (fun i _ => a.length - (intOf i).toNat)
    case atStart => exact ⟨0, Nat.zero_le _, rfl, rfl, Below.refl _ _⟩
    case round =>
      obtain ⟨k, hk, rfl, HT, HBW⟩ := hrel
      by_cases hlt : k < a.length
      · obtain ⟨x, hx⟩ : ∃ x, a[k]? = some x := ⟨a[k], by simp [hlt]⟩
        obtain ⟨y, hy⟩ : ∃ y, b[k]? = some y := ⟨b[k]'(by have := HL.out; omega), by simp⟩
        have HA2 : Hid (EntsIn wr (· < w.heap.size) (.slice aa a.length ca) a) := hideIt (RowIn.kept HA.out (Kept.of_below HBW.out (fun _ h _ => h)))
        have HB2 : Hid (EntsIn wr (· < w.heap.size) (.slice ab a.length cb) b) := hideIt (by rw [HL.out]; exact RowIn.kept (by have := HB.out; rw [HL.out] at this; exact this) (Kept.of_below HBW.out (fun _ h _ => h)))
        obtain ⟨b1, off1, rfl, _, c0, c1, c2⟩ := EntsIn.at HA2.out hx
        obtain ⟨b2, off2, rfl, _, d0, d1, d2⟩ := EntsIn.at HB2.out hy
        have HTT : Hid (∀ e, x = y → e = k + 1 → a.take e = b.take e) := hideIt (fun e h1 h2 => by
          subst h1 h2
          obtain ⟨hx1, hx2⟩ := List.getElem?_eq_some_iff.1 hx
          obtain ⟨hy1, hy2⟩ := List.getElem?_eq_some_iff.1 hy
          rw [List.take_succ_eq_append_getElem hx1, List.take_succ_eq_append_getElem hy1, HT.out, hx2, hy2])
        have HNN : Hid (x ≠ y → a ≠ b) := hideIt (fun h1 h2 => by subst h2; rw [hx] at hy; cases hy; exact h1 rfl)
        have hneq := fun w => neq_ent x y w
        clear hx hy
        by_cases hxy : x = y
        · rw [show decide (x = y) = true from decide_eq_true hxy] at hneq
          have HXY := hideIt hxy
          clear hxy
          go_wp2_with fail
          go_quiet (fail)
          have HB3 := hideIt (HBW.out.trans ((below_drewN wr nq).mono HBW.out.size))
          go_wp2
          exact ⟨⟨k + 1, by omega, by go_num, HTT.out (k + 1) HXY.out rfl, HB3.out⟩, by simp [intOf]; omega⟩
        · rw [show decide (x = y) = false from decide_eq_false hxy] at hneq
          have HXY : Hid (decide (a = b) = false) := hideIt (decide_eq_false (HNN.out hxy))
          clear hxy
          go_wp2_with fail
          go_quiet (fail)
          have HB3 := hideIt (HBW.out.trans ((below_drewN wr nq).mono HBW.out.size))
          go_wp2
          go_ret
          exact ⟨by rw [HXY.out]; rfl, HB3.out⟩
      · have HXY : Hid (decide (a = b) = true) := hideIt (decide_eq_true (by
          have h1 := HT.out
          rw [show k = a.length by omega, List.take_length] at h1
          rw [HL.out, List.take_length] at h1
          exact h1))
        go_wp2
        go_ret
        exact ⟨by rw [HXY.out]; rfl, HBW.out⟩
  · have HXY : Hid (decide (a = b) = false) := hideIt (decide_eq_false (fun h => hne (by rw [h])))
    have hnn : ((a.length : Int) == (b.length : Int)) = false := by simp only [beq_eq_false_iff_ne, ne_eq]; omega
    clear hne
    go_enter Tryz.func16, Tryz.ntmps16
    go_wp2
    go_ret
    exact ⟨by rw [HXY.out]; rfl, Below.refl _ _⟩
end Go.Proofs.YtmhbfplaglipnaaGreatDoor
namespace Go.Proofs.YtmhbfplaglipnaaGreatDoor
open Go.RowKit Go.Extern.Stop Go.Stop Go.Extern

theorem part_get {l : List Ent} {F m j : Nat} (hj : j < m) : (part l F m)[j]? = l[F + j]? := by
  unfold part
  rw [List.getElem?_take_of_lt hj, List.getElem?_drop]
theorem right_part {l : List Ent} {F m : Nat} (h : Right l) (h0 : F + m ≤ l.length) : Right (part l F m) := by
  have hl := part_length h0
  refine ⟨by rw [hl]; have := h.1; omega, fun j hj e he => ?_⟩
  rw [hl] at hj
  rw [part_get hj] at he
  obtain ⟨h1, h2, h3⟩ := h.2 (F + j) (by omega) e he
  refine ⟨h1, h2, fun j' hj' e' he' => ?_⟩
  rw [part_get (by omega)] at he'
  exact h3 (F + j') (by omega) e' he'
/-- what Prove makes is taken -/
theorem taken {T T' : List (List UInt8)} {l : List Ent} {root : Int} {F m f : Nat} {ds : List Int} {c : Int} (hx : Exts T T') (ho : Once T') (h1 : RootIs T l root) (h2 : ProvIs T F m f 0 l ds []) (h0 : F + m ≤ l.length) (hr : Right l) (hds : ∀ d ∈ ds, 0 ≤ d) (hc : ChkRes T' l.length F (part l F m) ds root c) : c = 0 := by
  have hpl := part_length h0
  rcases hc with ⟨h, _⟩ | ⟨_, h⟩ | ⟨_, _, d, hne, f1, t1, ht1, hm, hd⟩
  · exact h
  · refine absurd ⟨⟨by omega, by have := hr.1; omega⟩, right_part hr h0, ⟨by omega, by rw [hpl]; omega⟩, ?_, anyNeg_not.2 hds⟩ h
    have := prov_cnt h2
    rw [hpl]
    simpa using this
  · obtain ⟨f2, t2, k1, k2, k3⟩ := h1
    have hmt := made_taken (L := part l F m) ho (fun j j1 j2 j3 j4 => by
      rw [hpl] at j4
      rw [part_get (by omega), show F + (j - F) = j - 0 by omega]) (k1.more hx) (by rw [hpl]; exact h2.more hx)
    simp only [Int.toNat_natCast] at hm hd
    obtain ⟨e1, _⟩ := made_fun ho hm hmt
    rw [e1] at hd
    exact absurd (ho.dig hd (k3.more hx)) hne

/-- a world behind w0, with a Book -/
structure St (w0 w : World) (p : Nat) (O : Nat → Prop) (T : List (List UInt8)) : Prop where
  env : Env w0 w
  bk : Bk w p O T
  low : ∀ k, O k → w0.heap.size ≤ k
theorem St.next {w0 w w' : World} {p : Nat} {O : Nat → Prop} {T : List (List UInt8)} (h : St w0 w p O T) (hb : Below w.heap.size w w') : St w0 w' p O T := ⟨h.env.next hb, h.bk.next hb, h.low⟩
theorem St.goes {w0 w w' : World} {p : Nat} {O O' : Nat → Prop} {T T' : List (List UInt8)} {c : Nat} (h : St w0 w p O T) (hb : Bk w' p O' T') (hg : Goes w O T w' O' T' c) : St w0 w' p O' T' :=
  ⟨h.env.turned hg.turn h.low, hb, fun k hk => by
    rcases hg.own k hk with e | e
    · exact h.low k e
    · exact Nat.le_trans h.env.1.size e⟩
/-- a new Book -/
theorem St.new {w0 w w' : World} {p : Nat} (h : Env w0 w) (hs : BookSt w' p (fun k => w.heap.size ≤ k ∧ k < w'.heap.size) []) (hb : Below w.heap.size w w') : St w0 w' p (fun k => w.heap.size ≤ k ∧ k < w'.heap.size) [] :=
  ⟨h.next hb, ⟨hs, fun _ hk => hk.2⟩, fun _ hk => Nat.le_trans h.1.size hk.1⟩

def eA : Ent := ([97], [120], 0)
def eC : Ent := ([99], [121], 0)
theorem ents_lit (w : World) : EntsIn (w.alloc (.cells #[.string ⟨#[97]⟩, .string ⟨#[120]⟩, .int .i64 0, .string ⟨#[99]⟩, .string ⟨#[121]⟩, .int .i64 0] 42)) (fun k => k = w.heap.size) (.slice (some ⟨w.heap.size, 0, none⟩) 2 2) [eA, eC] := by
  refine ⟨_, _, rfl, (fun e => nomatch e), fun k z hz => ⟨w.heap.size, 0, rfl, rfl, ?_⟩⟩
  rw [Nat.zero_add]
  match k, hz with
  | 0, hz => simp [entsCells, entCells, eA, eC] at hz; subst hz; rw [World.cell?_alloc_at _ _ _ _ rfl]; rfl
  | 1, hz => simp [entsCells, entCells, eA, eC] at hz; subst hz; rw [World.cell?_alloc_at _ _ _ _ rfl]; rfl
  | 2, hz => simp [entsCells, entCells, eA, eC] at hz; subst hz; rw [World.cell?_alloc_at _ _ _ _ rfl]; rfl
  | 3, hz => simp [entsCells, entCells, eA, eC] at hz; subst hz; rw [World.cell?_alloc_at _ _ _ _ rfl]; rfl
  | 4, hz => simp [entsCells, entCells, eA, eC] at hz; subst hz; rw [World.cell?_alloc_at _ _ _ _ rfl]; rfl
  | 5, hz => simp [entsCells, entCells, eA, eC] at hz; subst hz; rw [World.cell?_alloc_at _ _ _ _ rfl]; rfl
  | k + 6, hz => simp [entsCells, entCells, eA, eC] at hz
theorem lit_right : Right [eA, eC] := by
  refine ⟨by decide, fun j hj e he => ?_⟩
  match j, hj with
  | 0, _ =>
    simp at he; subst he
    exact ⟨by decide, by decide, fun j' h => by omega⟩
  | 1, _ =>
    simp at he; subst he
    refine ⟨by decide, by decide, fun j' h e' he' => ?_⟩
    obtain rfl : j' = 0 := by omega
    simp at he'; subst he'
    show Op.bytesLess _ _ = true
    decide
theorem lit_fits : ∀ e ∈ [eA, eC], fits e.2.2 := by
  intro e he
  simp at he
  rcases he with rfl | rfl <;> simp [fits, eA, eC]
theorem lit_part : part [eA, eC] 0 1 = [eA] := rfl
theorem lit_findA : findE [eA] [97] = some eA := by decide
theorem lit_findB : findE [eA] [98] = none := by decide
theorem lit_reach : (reachB 0 [eA] [98] && reachT 2 0 [eA] [98]) = false := by decide
theorem head_text6 : textL [(⟨#[109, 101, 114, 107, 108, 101]⟩, 0)] ++ errText 62 = [109, 101, 114, 107, 108, 101, 32, 48, 58, 32, 99, 111, 104, 111, 114, 116, 58, 32, 101, 114, 114, 111, 114, 32, 54, 50] := by decide +kernel

set_option maxRecDepth 100000 in
set_option maxHeartbeats 8000000 in
theorem head06_true (w : World) (hg : ET w) (ht : PT w) : Calls Tryz.prog 10 #[] w fun e w' => e = .returned (.bool true) ∧ Below w.heap.size w w' := by
  have HV0 : Hid (Env w w) := ⟨Below.refl _ _, hg, ht⟩
  clear hg ht
  go_enter Tryz.func10, Tryz.ntmps10
  go_wp2_with fail
  refine (bNew_any w).mono ?_
  rintro e w1 ⟨p, rfl, hs, hb⟩
  have HS1 := hideIt (St.new HV0.out hs hb)
  clear hs hb
  have hal : Below w1.heap.size w1 (w1.alloc (.cells #[.string ⟨#[97]⟩, .string ⟨#[120]⟩, .int .i64 0, .string ⟨#[99]⟩, .string ⟨#[121]⟩, .int .i64 0] 42)) := (Below.refl _ _).alloc (Nat.le_refl _) _
  have HS2 := hideIt (HS1.out.next hal)
  have HL2 : Hid (EntsAp (w1.alloc (.cells #[.string ⟨#[97]⟩, .string ⟨#[120]⟩, .int .i64 0, .string ⟨#[99]⟩, .string ⟨#[121]⟩, .int .i64 0] 42)) (fun k => w.heap.size ≤ k ∧ k < w1.heap.size) (.slice (some ⟨w1.heap.size, 0, none⟩) 2 2) [eA, eC]) := hideIt (EntsAp.of (ents_lit w1) (fun k hk _ h => by omega))
  clear hal HS1
  go_wp2_with fail
  generalize w1.alloc (.cells #[.string ⟨#[97]⟩, .string ⟨#[120]⟩, .int .i64 0, .string ⟨#[99]⟩, .string ⟨#[121]⟩, .int .i64 0] 42) = w2 at HS2 HL2 ⊢
  refine (mRoot_ok w2 p _ [] _ [eA, eC] HS2.out.bk HL2.out lit_fits lit_right (by decide)).mono ?_
  rintro e w3 ⟨root, O3, T3, rfl, g1, g2, g3, g4⟩
  have HS3 := hideIt (HS2.out.goes g1 g2)
  have HL3 := hideIt (HL2.out.goes g2)
  have HT3 : Hid (T3.length ≤ 10) := hideIt (by have h := g2.len; exact Nat.le_trans h (by decide))
  have HR3 := hideIt g3
  clear g1 g2 g3 HS2 HL2
  go_wp2_with fail
  refine (mProve_ok w3 p O3 T3 _ [eA, eC] 0 1 HS3.out.bk HL3.out lit_fits lit_right (by decide) (by have := HT3.out; have : cost [eA, eC].length = 3 := rfl; omega) (fun a cap h => by cases h; decide)).mono ?_
  rintro e w4 ⟨f, vl, vb, ds, O4, T4, rfl, g1, g2, g3, g4, g5⟩
  rw [lit_part] at g3
  have hcn : ds.length = 1 := by
    have h1 := prov_cnt g5
    have h2 : cntN 0 1 0 [eA, eC].length = 1 := by decide +kernel
    rw [h2] at h1
    simpa using h1
  obtain ⟨al, cl, rfl⟩ := g3.1.form
  obtain ⟨ab, cb, rfl⟩ := NumsIn.form g3.2
  have HS4 := hideIt (HS3.out.goes g1 g2)
  have HT4 : Hid (T4.length ≤ 20) := hideIt (by have h := g2.len; have := HT3.out; have : cost [eA, eC].length = 3 := rfl; omega)
  have HP4 : Hid (ProofOk w4 O4 2 0 (.slice al 1 cl) (.slice ab ds.length cb) [eA] ds) := hideIt ⟨g3, by simp [fits], by simp [fits], fun e he => lit_fits e (by simp at he; simp [he]), fun d hd => by have := g4.1 d hd; unfold fits; omega, by decide, by rw [hcn]; decide⟩
  have HR4 := hideIt (HR3.out.more g2.exts)
  have HV4 := hideIt g5
  have HD4 := hideIt g4.1
  have HCN := hideIt hcn
  clear g1 g2 g3 g4 g5 HS3 HL3 HR3 hcn
  go_wp2_with fail
  obtain ⟨W, hW, hwb, hws, ⟨c0, c1, c2, c3⟩, _⟩ := room4 w4 25 (.int .i64 2) (.int .i64 0) (.slice al 1 cl) (.slice ab ds.length cb)
  rw [← hW]
  have HSW := hideIt (HS4.out.next hwb)
  have HPW := hideIt (HP4.out.next hwb)
  have HN4 : Hid (¬ O4 w4.heap.size) := hideIt (fun o => by have := HS4.out.bk.2 _ o; omega)
  clear hW hwb hws HS4 HP4
  generalize hq : w4.heap.size = q at c0 c1 c2 c3 HN4 ⊢
  clear hq
  refine (mCheck_any W p O4 T4 root 2 0 _ _ [eA] ds HSW.out.bk HPW.out (by have := HT4.out; omega)).mono ?_
  rintro e w5 ⟨er, c5, O5, T5, rfl, g1, g2, g3, g4⟩
  have hc5 : c5 = 0 := taken (F := 0) (m := 1) (l := [eA, eC]) g2.exts g1.once HR4.out HV4.out (by decide) lit_right (fun d hd => (HD4.out d hd).1) g4
  have her : er = .nilIface := by
    rcases g3 with ⟨_, h⟩ | ⟨h, _⟩
    · exact h
    · exact absurd hc5 h
  subst her
  have HS5 := hideIt (HSW.out.goes g1 g2)
  have HP5 := hideIt (HPW.out.goes g2)
  have HT5 : Hid (T5.length ≤ 5000) := hideIt (by have h := g2.len; have := HT4.out; omega)
  have HR5 := hideIt (HR4.out.more g2.exts)
  have HV5 := hideIt (HV4.out.more g2.exts)
  have HN5 : Hid (¬ O5 q) := hideIt (g2.not (lt_of_cell c0) HN4.out)
  have d0 := g2.cell c0 HN4.out
  have d1 := g2.cell c1 HN4.out
  have d2 := g2.cell c2 HN4.out
  have d3 := g2.cell c3 HN4.out
  clear g1 g2 g3 g4 hc5 HSW HPW HR4 HV4 c0 c1 c2 c3
  go_wp2_with fail
  refine (mHas_any w5 p O5 T5 root 2 0 _ _ [eA] ds [97] HS5.out.bk HP5.out (by have := HT5.out; omega)).mono ?_
  rintro e w6 ⟨er, c6, x6, is6, O6, T6, rfl, g1, g2, g3, k0, h1, h2⟩
  have hc6 : k0 = 0 := taken (F := 0) (m := 1) (l := [eA, eC]) g2.exts g1.once HR5.out HV5.out (by decide) lit_right (fun d hd => (HD4.out d hd).1) h1
  have hh : x6 = eA ∧ is6 = true ∧ c6 = 0 := by
    rcases h2 with ⟨h, _⟩ | ⟨_, h, h3, h4⟩ | ⟨_, h, _⟩
    · exact absurd hc6 h
    · rw [lit_findA] at h; cases h; exact ⟨rfl, h3, h4⟩
    · rw [lit_findA] at h; cases h
  obtain ⟨rfl, rfl, hc62⟩ := hh
  have her : er = .nilIface := by
    rcases g3 with ⟨_, h⟩ | ⟨h, _⟩
    · exact h
    · exact absurd hc62 h
  subst her
  have HS6 := hideIt (HS5.out.goes g1 g2)
  have HP6 := hideIt (HP5.out.goes g2)
  have HT6 : Hid (T6.length ≤ 10000) := hideIt (by have h := g2.len; have := HT5.out; omega)
  have HR6 := hideIt (HR5.out.more g2.exts)
  have HV6 := hideIt (HV5.out.more g2.exts)
  have HN6 : Hid (¬ O6 q) := hideIt (g2.not (lt_of_cell d0) HN5.out)
  have c0 := g2.cell d0 HN5.out
  have c1 := g2.cell d1 HN5.out
  have c2 := g2.cell d2 HN5.out
  have c3 := g2.cell d3 HN5.out
  clear g1 g2 g3 h1 h2 hc6 hc62 HS5 HP5 HR5 HV5 d0 d1 d2 d3
  obtain ⟨W6, hW6, hwb6, _, _, _, _⟩ := room3 w6 42 (.string ⟨#[97]⟩) (.string ⟨#[120]⟩) (.int .i64 0)
  have HSX := hideIt (HS6.out.next hwb6)
  have HPX := hideIt (HP6.out.next hwb6)
  have d0 := (hwb6.cell (lt_of_cell c0)).trans c0
  have d1 := (hwb6.cell (lt_of_cell c1)).trans c1
  have d2 := (hwb6.cell (lt_of_cell c2)).trans c2
  have d3 := (hwb6.cell (lt_of_cell c3)).trans c3
  clear HS6 HP6 c0 c1 c2 c3 hwb6
  subst hW6
  unfold entV eA
  go_wp2_with fail
  generalize w6.alloc (.cells #[.string ⟨#[97]⟩, .string ⟨#[120]⟩, .int .i64 0] 42) = w6 at HSX HPX d0 d1 d2 d3 ⊢
  refine (mHas_any w6 p O6 T6 root 2 0 _ _ [eA] ds [98] HSX.out.bk HPX.out (by have := HT6.out; omega)).mono ?_
  rintro e w7 ⟨er, c7, x7, is7, O7, T7, rfl, g1, g2, g3, k0, h1, h2⟩
  have hc7 : k0 = 0 := taken (F := 0) (m := 1) (l := [eA, eC]) g2.exts g1.once HR6.out HV6.out (by decide) lit_right (fun d hd => (HD4.out d hd).1) h1
  have hh : x7 = zeroE ∧ is7 = false ∧ c7 = 62 := by
    rcases h2 with ⟨h, _⟩ | ⟨_, h, h3, h4⟩ | ⟨_, _, h3, h4, h5⟩
    · exact absurd hc7 h
    · rw [lit_findB] at h; cases h
    · refine ⟨h4, h3, ?_⟩
      rw [lit_reach] at h5
      simpa using h5
  obtain ⟨rfl, rfl, rfl⟩ := hh
  have ho : One w7 (w6.heap.size ≤ ·) er 62 ⟨#[109, 101, 114, 107, 108, 101]⟩ 0 := by
    rcases g3 with ⟨h, _⟩ | ⟨_, h⟩
    · cases h
    · exact h.mono (fun _ hk _ => hk.1)
  obtain ⟨ty, y, rfl⟩ := ho.iface
  have HS7 := hideIt (HSX.out.goes g1 g2)
  have HO7 := hideIt ho
  have e3 := g2.cell d3 HN6.out
  clear g1 g2 g3 h1 h2 hc7 ho HSX HPX HR6 HV6 d0 d1 d2 d3
  obtain ⟨W7, hW7, hwb7, _, _, _, _⟩ := room3 w7 42 (.string ⟨#[]⟩) (.string ⟨#[]⟩) (.int .i64 0)
  have HSY := hideIt (HS7.out.next hwb7)
  have HOY := hideIt (One.kept HO7.out (Kept.of_all hwb7))
  have d3 := (hwb7.cell (lt_of_cell e3)).trans e3
  clear HS7 HO7 e3 hwb7
  subst hW7
  unfold entV zeroE
  have hcn : ((ds.length : Int) == 1) = true := by rw [HCN.out]; rfl
  have hrt : (0 : Int) ≤ (root : Int) := by omega
  go_wp2_with fail
  have HA := hideIt (HSY.out.env.at HOY.out)
  refine (HA.out.text (by unfold fits; omega) (by decide) (by intro x hx; simp at hx; subst hx; unfold fits; simp) (by decide +kernel)).mono ?_
  rintro e w8 ⟨he, -, HB8⟩
  have he' : e = Ending.returned (.string ⟨#[109, 101, 114, 107, 108, 101, 32, 48, 58, 32, 99, 111, 104, 111, 114, 116, 58, 32, 101, 114, 114, 111, 114, 32, 54, 50]⟩) := by rw [he]; exact congrArg (fun x => Ending.returned (.string ⟨List.toArray x⟩)) head_text6
  clear he
  subst he'
  have HV8 := hideIt (HSY.out.env.next HB8.out)
  clear HA HB8
  go_wp2
  go_ret
  exact ⟨rfl, HV8.out.1⟩
theorem RootIs.lt {T : List (List UInt8)} {l : List Ent} {d : Int} (_ : RootIs T l d) (hl : l.length ≤ 1024) : fits (l.length : Int) := by unfold fits; omega
/-- what a proof that is taken says of the root's entries -/
theorem made_leaves {T : List (List UInt8)} {l : List Ent} {root N F : Int} {L : List Ent} {Bs : List Int} (hl : l.length ≤ 1024) (h1 : RootIs T l root) (hs : Shaped N F L Bs) (h2 : RootMade T N.toNat F.toNat L Bs root) :
    N = l.length ∧ 0 ≤ F ∧ F.toNat + L.length ≤ l.length ∧ L = part l F.toNat L.length := by
  obtain ⟨f2, t2, k1, k2, k3⟩ := h1
  obtain ⟨f1, t1, j0, j1, j2⟩ := h2
  have he := Dig.one k3 j2
  have hN := hs.1
  have hF := hs.2.2.1
  obtain ⟨e1, e2⟩ := rootT_inj ⟨by unfold fits; omega, fits_small k2⟩ ⟨by unfold fits; omega, j0⟩ he
  have hNl : N.toNat = l.length := by omega
  rw [← e2, hNl] at j1
  have hne := nothing_else k1 j1
  have hle : F.toNat + L.length ≤ l.length := by omega
  refine ⟨by omega, hF.1, hle, ?_⟩
  apply List.ext_getElem?
  intro j
  by_cases hj : j < L.length
  · rw [part_get hj]
    have := hne (F.toNat + j) (by omega) (by omega) (by omega) (by omega)
    rw [Nat.sub_zero, Nat.add_sub_cancel_left] at this
    exact this.symm
  · rw [List.getElem?_eq_none (by omega), List.getElem?_eq_none (by rw [part_length hle]; omega)]
theorem EntsAp.start {W w : World} {O : Nat → Prop} {v : Value} {l : List Ent} (h : EntsIn W (· < W.heap.size) v l) (hb : Below W.heap.size W w) (hO : ∀ k, O k → W.heap.size ≤ k) : EntsAp w O v l :=
  RowIn.mono (RowIn.kept h (Kept.of_all hb)) (fun k hk hl => ⟨hl, fun o => by have := hO k o; omega⟩)
theorem ProofOk.start {W w : World} {O : Nat → Prop} {N F : Int} {vl vb : Value} {L : List Ent} {Bs : List Int} (h : ProofOk W (fun _ => False) N F vl vb L Bs) (hb : Below W.heap.size W w) (hO : ∀ k, O k → W.heap.size ≤ k) : ProofOk w O N F vl vb L Bs :=
  { h with ap := ⟨RowIn.mono (RowIn.kept h.ap.1 (Kept.of_all hb)) (fun k hk hl => ⟨hl, fun o => by have := hO k o; omega⟩), RowIn.mono (RowIn.kept h.ap.2 (Kept.of_all hb)) (fun k hk hl => ⟨hl, fun o => by have := hO k o; omega⟩)⟩ }
theorem ErrM.form {w : World} {A : Nat → Prop} {er : Value} {c : Int} (h : ErrM w A er c) : (c = 0 ∧ er = .nilIface) ∨ (c ≠ 0 ∧ ∃ t x, er = .iface t x) := by
  rcases h with h | ⟨h1, h2⟩
  · exact Or.inl h
  · exact Or.inr ⟨h1, h2.iface⟩

theorem right_rise {l : List Ent} (h : Right l) {i j : Nat} {a b : Ent} (hij : i < j) (ha : l[i]? = some a) (hb : l[j]? = some b) : kLt a.1 b.1 := by
  induction j generalizing b with
  | zero => omega
  | succ j ih =>
    have hjl : j + 1 < l.length := (List.getElem?_eq_some_iff.1 hb).1
    have hc : l[j]? = some l[j] := List.getElem?_eq_getElem (by omega)
    have h1 := (h.2 (j + 1) hjl b hb).2.2 j rfl _ hc
    by_cases e : i = j
    · subst e; rw [ha] at hc; cases hc; exact h1
    · exact kLt_trans (ih (by omega) hc) h1
theorem right_one {l : List Ent} (h : Right l) {i j : Nat} {a b : Ent} (ha : l[i]? = some a) (hb : l[j]? = some b) (e : a.1 = b.1) : a = b := by
  by_cases c : i = j
  · subst c; rw [ha] at hb; exact Option.some.inj hb
  · rcases Nat.lt_or_gt_of_ne c with c | c
    · have := right_rise h c ha hb; rw [e] at this; exact absurd this (kLt_irrefl _)
    · have := right_rise h c hb ha; rw [e] at this; exact absurd this (kLt_irrefl _)

end Go.Proofs.YtmhbfplaglipnaaGreatDoor
