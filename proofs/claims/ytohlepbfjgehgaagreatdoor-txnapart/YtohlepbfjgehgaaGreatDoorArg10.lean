/-
  What is proved here: transactions in memory: how those that came in lie there, over this program.
-/
import Derived.Test.YtohlepbfjgehgaaGreatDoorArg
import Derived.Test.YtohlepbfjgehgaaGreatDoorArg7
import Derived.Test.YtohlepbfjgehgaaGreatDoorTA
namespace Go.Proofs.YtohlepbfjgehgaaGreatDoor
open Go.ChangeShapes Go.WideShapes Go.ChangeAt Go.RowKit

theorem cellsTxn : Tryz.prog.cellsOf 25 = 4 := by kernel_rfl
theorem cellsReads : Tryz.prog.cellsOf 22 = 1 := by kernel_rfl
theorem cellsWrites : Tryz.prog.cellsOf 23 = 1 := by kernel_rfl
theorem cellsRd : Tryz.prog.cellsOf 54 = 2 := by kernel_rfl
theorem cellsWr : Tryz.prog.cellsOf 48 = 2 := by kernel_rfl
theorem bytesRd : Tryz.prog.bytesOf 54 = 24 := by kernel_rfl
theorem bytesWr : Tryz.prog.bytesOf 48 = 32 := by kernel_rfl

section
variable {H : Type} {enc : TypeId × Value → H} {w : World} {base : Nat} {spare : Nat → Bool} {held : Bool} {fuel : Nat} {cs : List Value} {x : DataW H × List MemPlace}
theorem trod_struct4d {P : Program} {t : TypeId} {f0 f1 f2 f3 : Field} (ht : P.underlying t = some (.struct #[f0, f1, f2, f3])) (h : DataW.trod enc P w base spare held fuel t cs = some x) :
    ∃ y0 y1 y2 y3 n, cs.length = P.cellsOf t ∧ x.1 = .agg [y0.1, y1.1, y2.1, y3.1] ∧ DataW.trod enc P w base spare held n f0.type ((cs.drop f0.offset).take (P.cellsOf f0.type)) = some y0 ∧
      DataW.trod enc P w base spare held n f1.type ((cs.drop f1.offset).take (P.cellsOf f1.type)) = some y1 ∧ DataW.trod enc P w base spare held n f2.type ((cs.drop f2.offset).take (P.cellsOf f2.type)) = some y2 ∧ DataW.trod enc P w base spare held n f3.type ((cs.drop f3.offset).take (P.cellsOf f3.type)) = some y3 := by
  obtain ⟨xs, n, _, rfl, hl, hlen, hf⟩ := DataW.trod_struct ht h
  match xs, hlen with
  | [y0, y1, y2, y3], _ => exact ⟨y0, y1, y2, y3, n, hl, by simp, by simpa using hf 0 f0 rfl, by simpa using hf 1 f1 rfl, by simpa using hf 2 f2 rfl, by simpa using hf 3 f3 rfl⟩

set_option maxRecDepth 100000 in
theorem open_rd (h : DataW.trod enc Tryz.prog w base spare held fuel 54 cs = some x) : ∃ e : Rd, cs = rdCells e := by
  obtain ⟨y0, y1, n, _, hl, g0, g1⟩ := trod_struct2 Tryz.underlying54 h
  rw [cellsRd] at hl
  match cs, hl with
  | [c0, c1], _ =>
      have h0 : DataW.trod enc Tryz.prog w base spare held n 9 [c0] = some y0 := by have := g0; rw [cellsString] at this; simpa using this
      have h1 : DataW.trod enc Tryz.prog w base spare held n 2 [c1] = some y1 := by have := g1; rw [cellsI646] at this; simpa using this
      obtain ⟨s0, hk0, _, w0⟩ := DataW.trod_string Tryz.underlying9 h0
      obtain ⟨k1, hk1, _, w1⟩ := DataW.trod_int Tryz.underlying2 h1
      simp at hk0 hk1
      subst hk0 hk1
      exact ⟨(s0.data.toList, k1), by unfold rdCells; simp only [← str_list]⟩

set_option maxRecDepth 100000 in
theorem open_rds (h : DataW.trod enc Tryz.prog w base spare held fuel 22 cs = some x) :
    ∃ (v : Value) (l : List Rd), cs = [v] ∧ RdsIn w (fun _ => True) v l ∧ (l = [] ∨ ∃ elems sp, x.1 = .slice elems sp ∧ elems.length = l.length) := by
  rcases Deep.open_slice Tryz.underlying22 h with ⟨rfl, rfl⟩ | ⟨a, len, cap, m, n, D, Pl, rfl, _, hl, hm, hmm, rfl, hx⟩
  · exact ⟨_, [], rfl, ⟨none, 0, rfl, fun _ => ⟨rfl, rfl, rfl⟩, fun k y hy => by simp [rdsCells] at hy⟩, Or.inl rfl⟩
  · have hle : len ≤ m := by rw [hmm]; split <;> omega
    rw [cellsRd] at hx
    obtain ⟨g, hg⟩ := Deep.choose_lt (α := Rd) (n := len) (p := fun i y => w.cell? (a.add (i * 2)) = some (.string ⟨y.1.toArray⟩) ∧ w.cell? (a.add (i * 2 + 1)) = some (.int .i64 y.2)) (fun i hi => by
      obtain ⟨cs', c1, c2⟩ := hx i (by omega)
      obtain ⟨y, rfl⟩ := open_rd c2
      obtain ⟨_, _, hc⟩ := World.cells?_some c1
      have d0 := hc 0 (by omega)
      have d1 := hc 1 (by omega)
      rw [Deep.add_add] at d0 d1
      exact ⟨y, by simpa [rdCells] using d0, by simpa [rdCells] using d1⟩)
    have hlen : ((List.range len).map g).length = len := by simp
    refine ⟨_, (List.range len).map g, rfl, ⟨some a, cap, by rw [hlen], (fun e => nomatch e), fun k y hy => ?_⟩, Or.inr ⟨_, _, rfl, by simp⟩⟩
    have hk := (List.getElem?_eq_some_iff.1 hy).1
    rw [rdsCells_len, hlen] at hk
    obtain ⟨q, r, hr, rfl⟩ : ∃ q r, r < 2 ∧ k = q * 2 + r := ⟨k / 2, k % 2, Nat.mod_lt _ (by decide), by omega⟩
    have hq : q < len := by omega
    have hgq : ((List.range len).map g)[q]? = some (g q) := by simp [hq]
    obtain ⟨e0, e1⟩ := rdsCells_at hgq
    obtain ⟨d0, d1⟩ := hg q hq
    have z0 := (hg 0 (by omega)).1
    obtain ⟨b, off, rfl⟩ := plain_addr d0 ⟨_, by simpa using z0⟩
    rw [addr_add] at d0 d1
    refine ⟨b, off, rfl, trivial, ?_⟩
    match r, hr with
    | 0, _ => rw [Nat.add_zero] at hy ⊢; rw [e0] at hy; cases hy; exact d0
    | 1, _ => rw [e1] at hy; cases hy; exact d1
set_option maxRecDepth 100000 in
theorem open_wr (h : DataW.trod enc Tryz.prog w base spare held fuel 48 cs = some x) : ∃ e : Wr, cs = wrCells e := by
  obtain ⟨y0, y1, n, _, hl, g0, g1⟩ := trod_struct2 Tryz.underlying48 h
  rw [cellsWr] at hl
  match cs, hl with
  | [c0, c1], _ =>
      have h0 : DataW.trod enc Tryz.prog w base spare held n 9 [c0] = some y0 := by have := g0; rw [cellsString] at this; simpa using this
      have h1 : DataW.trod enc Tryz.prog w base spare held n 9 [c1] = some y1 := by have := g1; rw [cellsString] at this; simpa using this
      obtain ⟨s0, hk0, _, w0⟩ := DataW.trod_string Tryz.underlying9 h0
      obtain ⟨s1, hk1, _, w1⟩ := DataW.trod_string Tryz.underlying9 h1
      simp at hk0 hk1
      subst hk0 hk1
      exact ⟨(s0.data.toList, s1.data.toList), by unfold wrCells; simp only [← str_list]⟩

set_option maxRecDepth 100000 in
theorem open_wrs (h : DataW.trod enc Tryz.prog w base spare held fuel 23 cs = some x) :
    ∃ (v : Value) (l : List Wr), cs = [v] ∧ WrsIn w (fun _ => True) v l ∧ (l = [] ∨ ∃ elems sp, x.1 = .slice elems sp ∧ elems.length = l.length) := by
  rcases Deep.open_slice Tryz.underlying23 h with ⟨rfl, rfl⟩ | ⟨a, len, cap, m, n, D, Pl, rfl, _, hl, hm, hmm, rfl, hx⟩
  · exact ⟨_, [], rfl, ⟨none, 0, rfl, fun _ => ⟨rfl, rfl, rfl⟩, fun k y hy => by simp [wrsCells] at hy⟩, Or.inl rfl⟩
  · have hle : len ≤ m := by rw [hmm]; split <;> omega
    rw [cellsWr] at hx
    obtain ⟨g, hg⟩ := Deep.choose_lt (α := Wr) (n := len) (p := fun i y => w.cell? (a.add (i * 2)) = some (.string ⟨y.1.toArray⟩) ∧ w.cell? (a.add (i * 2 + 1)) = some (.string ⟨(y.2).toArray⟩)) (fun i hi => by
      obtain ⟨cs', c1, c2⟩ := hx i (by omega)
      obtain ⟨y, rfl⟩ := open_wr c2
      obtain ⟨_, _, hc⟩ := World.cells?_some c1
      have d0 := hc 0 (by omega)
      have d1 := hc 1 (by omega)
      rw [Deep.add_add] at d0 d1
      exact ⟨y, by simpa [wrCells] using d0, by simpa [wrCells] using d1⟩)
    have hlen : ((List.range len).map g).length = len := by simp
    refine ⟨_, (List.range len).map g, rfl, ⟨some a, cap, by rw [hlen], (fun e => nomatch e), fun k y hy => ?_⟩, Or.inr ⟨_, _, rfl, by simp⟩⟩
    have hk := (List.getElem?_eq_some_iff.1 hy).1
    rw [wrsCells_len, hlen] at hk
    obtain ⟨q, r, hr, rfl⟩ : ∃ q r, r < 2 ∧ k = q * 2 + r := ⟨k / 2, k % 2, Nat.mod_lt _ (by decide), by omega⟩
    have hq : q < len := by omega
    have hgq : ((List.range len).map g)[q]? = some (g q) := by simp [hq]
    obtain ⟨e0, e1⟩ := wrsCells_at hgq
    obtain ⟨d0, d1⟩ := hg q hq
    have z0 := (hg 0 (by omega)).1
    obtain ⟨b, off, rfl⟩ := plain_addr d0 ⟨_, by simpa using z0⟩
    rw [addr_add] at d0 d1
    refine ⟨b, off, rfl, trivial, ?_⟩
    match r, hr with
    | 0, _ => rw [Nat.add_zero] at hy ⊢; rw [e0] at hy; cases hy; exact d0
    | 1, _ => rw [e1] at hy; cases hy; exact d1

set_option maxRecDepth 100000 in
/-- a transaction that came in -/
theorem open_txn {W : World} {v : Value} {d : DataW H} {p : List MemPlace} (hv : Value.okWide Tryz.prog W .any base 25 v) (h : DataW.Trod enc Tryz.prog W 0 (fun _ => true) true 25 v d p) :
    ∃ (c n : Int) (rv wv : Value) (rs : List Rd) (ws : List Wr), v = .agg #[.int .i64 c, .int .i64 n, rv, wv] ∧ RdsIn W (· < W.heap.size) rv rs ∧ WrsIn W (· < W.heap.size) wv ws ∧
      ∃ dc dn dr dw, d = .agg [dc, dn, dr, dw] ∧ (rs = [] ∨ ∃ elems sp, dr = .slice elems sp ∧ elems.length = rs.length) ∧ (ws = [] ∨ ∃ elems sp, dw = .slice elems sp ∧ elems.length = ws.length) := by
  obtain ⟨cs, rfl, hsz⟩ := okWide_struct Tryz.underlying25 hv
  rw [cellsTxn] at hsz
  obtain ⟨cl⟩ := cs
  match cl, hsz with
  | [c0, c1, c2, c3], _ =>
    obtain ⟨fuel, hf⟩ := h
    obtain ⟨y0, y1, y2, y3, n, hl, hd, g0, g1, g2, g3⟩ := trod_struct4d Tryz.underlying25 hf
    simp only [Value.cells] at g0 g1 g2 g3
    have h0 : DataW.trod enc Tryz.prog W 0 (fun _ => true) true n 3 [c0] = some y0 := by have := g0; rw [cellsInt] at this; simpa using this
    have h1 : DataW.trod enc Tryz.prog W 0 (fun _ => true) true n 2 [c1] = some y1 := by have := g1; rw [cellsI646] at this; simpa using this
    have h2 : DataW.trod enc Tryz.prog W 0 (fun _ => true) true n 22 [c2] = some y2 := by have := g2; rw [cellsReads] at this; simpa using this
    have h3 : DataW.trod enc Tryz.prog W 0 (fun _ => true) true n 23 [c3] = some y3 := by have := g3; rw [cellsWrites] at this; simpa using this
    obtain ⟨k0, hk0, _, w0⟩ := DataW.trod_int Tryz.underlying3 h0
    obtain ⟨k1, hk1, _, w1⟩ := DataW.trod_int Tryz.underlying2 h1
    obtain ⟨u2, l2, e2, o2, b2⟩ := open_rds h2
    obtain ⟨u3, l3, e3, o3, b3⟩ := open_wrs h3
    simp at hk0 hk1 e2 e3
    subst hk0 hk1 e2 e3
    exact ⟨k0, k1, _, _, l2, l3, rfl, RowIn.mono o2 (fun _ _ hl => hl), RowIn.mono o3 (fun _ _ hl => hl), _, _, _, _, hd, b2, b3⟩

/-- its lists are short enough for a machine -/
theorem txn_sized {ts : List TypeId} {ds : List (DataW H)} (hsz : (DataW.weightsEach Tryz.prog ts ds).all (· ≤ reachBytes) = true) {j : Nat} {d : DataW H} (ht : ts[j]? = some 25) (hd : ds[j]? = some d) {rs : List Rd} {ws : List Wr}
    (h : ∃ dc dn dr dw, d = .agg [dc, dn, dr, dw] ∧ (rs = [] ∨ ∃ elems sp, dr = .slice elems sp ∧ elems.length = rs.length) ∧ (ws = [] ∨ ∃ elems sp, dw = .slice elems sp ∧ elems.length = ws.length)) :
    rs.length ≤ 140737488355328 ∧ ws.length ≤ 140737488355328 := by
  obtain ⟨dc, dn, dr, dw, rfl, hr, hw⟩ := h
  have hre := reachBytes_lt
  have hall : ∀ n ∈ DataW.weightsEach Tryz.prog [3, 2, 22, 23] [dc, dn, dr, dw], n ≤ reachBytes := fun n hn => by
    have := List.all_eq_true.1 hsz n (DataW.weights_mem_each ht hd n (by simpa [DataW.weights, Tryz.underlying25] using hn))
    simpa using this
  constructor
  · rcases hr with rfl | ⟨elems, sp, rfl, hl⟩
    · simp
    · have := hall ((elems.length + sp.length) * Tryz.prog.bytesOf 54) (DataW.weights_mem_each (j := 2) (t := 22) rfl rfl _ (by simp [DataW.weights, Tryz.underlying22]))
      rw [bytesRd] at this
      omega
  · rcases hw with rfl | ⟨elems, sp, rfl, hl⟩
    · simp
    · have := hall ((elems.length + sp.length) * Tryz.prog.bytesOf 48) (DataW.weights_mem_each (j := 3) (t := 23) rfl rfl _ (by simp [DataW.weights, Tryz.underlying23]))
      rw [bytesWr] at this
      omega
end
end Go.Proofs.YtohlepbfjgehgaaGreatDoor
