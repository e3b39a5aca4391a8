/-
  What is proved here: the statements' own Op (cohortlaw07) in memory: how a slice of them that came in lies there; Great; over this program.
-/
import Derived.Test.YtddmjbmfkdhhgaaDoorArg7
import Derived.Test.YtddmjbmfkdhhgaaDoorEJ
namespace Go.Proofs.YtddmjbmfkdhhgaaDoor
open Go.ChangeShapes Go.WideShapes Go.ChangeAt Go.RowKit Go.Extern.Stop Go.Stop Go.Extern

/-- a call: what, key, value, entries -/
abbrev Op7 := Int × List UInt8 × List UInt8 × List Ent
def Op7Ok (o : Op7) : Prop := o.2.1.length ≤ maxLen ∧ o.2.2.1.length ≤ maxLen ∧ o.2.2.2.length ≤ maxLen
/-- a slice of calls -/
def Ops7In (w : World) (A : Nat → Prop) (v : Value) (l : List Op7) : Prop :=
  ∃ a cap, v = .slice a l.length cap ∧ ∀ (k : Nat) o, l[k]? = some o → ∃ b off u, a = some ⟨b, off, none⟩ ∧ A b ∧ w.cell? ⟨b, off + k * 4, none⟩ = some (.int .i64 o.1) ∧ w.cell? ⟨b, off + k * 4 + 1, none⟩ = some (.string ⟨o.2.1.toArray⟩) ∧
    w.cell? ⟨b, off + k * 4 + 2, none⟩ = some (.string ⟨o.2.2.1.toArray⟩) ∧ w.cell? ⟨b, off + k * 4 + 3, none⟩ = some u ∧ EntsIn w A u o.2.2.2 ∧ ∀ x c, u = .slice x o.2.2.2.length c → o.2.2.2.length ≤ c
theorem Ops7In.form {w : World} {A : Nat → Prop} {v : Value} {l : List Op7} (h : Ops7In w A v l) : ∃ a cap, v = .slice a l.length cap := by
  obtain ⟨a, cap, h1, _⟩ := h
  exact ⟨a, cap, h1⟩
theorem Ops7In.kept {w w' : World} {A : Nat → Prop} {v : Value} {l : List Op7} (h : Ops7In w A v l) (hk : Kept A w w') : Ops7In w' A v l := by
  obtain ⟨a, cap, h1, h2⟩ := h
  refine ⟨a, cap, h1, fun k o ho => ?_⟩
  obtain ⟨b, off, u, e1, e2, c0, c1, c2, c3, hu, hc⟩ := h2 k o ho
  exact ⟨b, off, u, e1, e2, hk.cell (a := ⟨b, off + k * 4, none⟩) e2 c0, hk.cell (a := ⟨b, off + k * 4 + 1, none⟩) e2 c1, hk.cell (a := ⟨b, off + k * 4 + 2, none⟩) e2 c2, hk.cell (a := ⟨b, off + k * 4 + 3, none⟩) e2 c3, RowIn.kept hu hk, hc⟩
theorem Ops7In.at {w : World} {A : Nat → Prop} {a : Option Addr} {n cap : Nat} {l : List Op7} (h : Ops7In w A (.slice a n cap) l) {k : Nat} {o : Op7} (ho : l[k]? = some o) :
    ∃ b off u, a = some ⟨b, off, none⟩ ∧ A b ∧ w.cell? ⟨b, off + k * 4, none⟩ = some (.int .i64 o.1) ∧ w.cell? ⟨b, off + k * 4 + 1, none⟩ = some (.string ⟨o.2.1.toArray⟩) ∧
    w.cell? ⟨b, off + k * 4 + 2, none⟩ = some (.string ⟨o.2.2.1.toArray⟩) ∧ w.cell? ⟨b, off + k * 4 + 3, none⟩ = some u ∧ EntsIn w A u o.2.2.2 ∧ ∀ x c, u = .slice x o.2.2.2.length c → o.2.2.2.length ≤ c := by
  obtain ⟨a', cap', e1, h2⟩ := h
  simp only [Value.slice.injEq] at e1
  obtain ⟨rfl, _, rfl⟩ := e1
  exact h2 k o ho

def AnyBool (e : Ending) : Prop := ∃ g : Bool, e = .returned (.bool g)
set_option maxHeartbeats 4000000 in
theorem Great07_any (A : Nat → Prop) (v : Value) (l : List Op7) (w : World) (hv : Ops7In w A v l) (hn : l.length ≤ maxLen) (hok : ∀ o ∈ l, Op7Ok o) : Calls Tryd.prog 17 #[v] w fun e w' => AnyBool e ∧ w' = w := by
  have HV := hideIt hv
  have HZ := hideIt hok
  obtain ⟨a, cap, rfl⟩ := hv.form
  unfold maxLen at hn
  clear hv hok
  go_enter Tryd.func17, Tryd.ntmps17
  go_wp2
  go_loop [3, 4] (fun n i => ∃ (k : Nat) (m : Int), k ≤ l.length ∧ i = .int .i64 k ∧ n = .int .i64 m ∧ 0 ≤ m ∧ m ≤ 7000) (fun _ i => l.length - (intOf i).toNat)
  case atStart => exact ⟨0, 0, Nat.zero_le _, rfl, rfl, by omega, by omega⟩
  case round =>
    obtain ⟨k, m, hk, rfl, rfl, hm0, hm7⟩ := hrel
    by_cases hlt : k < l.length
    · by_cases hm : m < 2000
      · obtain ⟨o, ho⟩ : ∃ o, l[k]? = some o := ⟨l[k], by simp [hlt]⟩
        obtain ⟨b, off, u, rfl, _, c0, c1, c2, c3, hu, _⟩ := HV.out.at ho
        obtain ⟨au, cu, rfl⟩ := EntsIn.form hu
        have hos := (HZ.out o (List.mem_of_getElem? ho)).2.2
        unfold maxLen at hos
        clear ho hu
        go_wp2
        exact ⟨⟨k + 1, _, by omega, by go_num, rfl, by go_num, by go_num⟩, by simp [intOf]; omega⟩
      · go_wp2
        go_ret
        exact ⟨⟨_, rfl⟩, rfl⟩
    · go_wp2
      go_ret
      exact ⟨⟨_, rfl⟩, rfl⟩

theorem cellsOp7 : Tryd.prog.cellsOf 43 = 4 := by kernel_rfl
section
variable {H : Type} {enc : TypeId × Value → H} {w : World} {base : Nat} {spare : Nat → Bool} {held : Bool} {fuel : Nat} {cs : List Value} {x : DataW H × List MemPlace}
theorem trod_struct4 {P : Program} {t : TypeId} {f0 f1 f2 f3 : Field} (ht : P.underlying t = some (.struct #[f0, f1, f2, f3])) (h : DataW.trod enc P w base spare held fuel t cs = some x) :
    ∃ y0 y1 y2 y3 n, cs.length = P.cellsOf t ∧ DataW.trod enc P w base spare held n f0.type ((cs.drop f0.offset).take (P.cellsOf f0.type)) = some y0 ∧
      DataW.trod enc P w base spare held n f1.type ((cs.drop f1.offset).take (P.cellsOf f1.type)) = some y1 ∧ DataW.trod enc P w base spare held n f2.type ((cs.drop f2.offset).take (P.cellsOf f2.type)) = some y2 ∧ DataW.trod enc P w base spare held n f3.type ((cs.drop f3.offset).take (P.cellsOf f3.type)) = some y3 := by
  obtain ⟨xs, n, _, rfl, hl, hlen, hf⟩ := DataW.trod_struct ht h
  match xs, hlen with
  | [y0, y1, y2, y3], _ => exact ⟨y0, y1, y2, y3, n, hl, by simpa using hf 0 f0 rfl, by simpa using hf 1 f1 rfl, by simpa using hf 2 f2 rfl, by simpa using hf 3 f3 rfl⟩

set_option maxRecDepth 100000 in
theorem open_op7 (h : DataW.trod enc Tryd.prog w base spare held fuel 43 cs = some x) :
    ∃ (y : Op7) (u : Value), cs = [.int .i64 y.1, .string ⟨y.2.1.toArray⟩, .string ⟨y.2.2.1.toArray⟩, u] ∧ EntsIn w (fun _ => True) u y.2.2.2 ∧ (∀ a c, u = .slice a y.2.2.2.length c → y.2.2.2.length ≤ c) ∧ Op7Ok y := by
  obtain ⟨y0, y1, y2, y3, n, hl, g0, g1, g2, g3⟩ := trod_struct4 Tryd.underlying43 h
  rw [cellsOp7] at hl
  match cs, hl with
  | [c0, c1, c2, c3], _ =>
      have h0 : DataW.trod enc Tryd.prog w base spare held n 3 [c0] = some y0 := by have := g0; rw [cellsInt] at this; simpa using this
      have h1 : DataW.trod enc Tryd.prog w base spare held n 9 [c1] = some y1 := by have := g1; rw [cellsString] at this; simpa using this
      have h2 : DataW.trod enc Tryd.prog w base spare held n 9 [c2] = some y2 := by have := g2; rw [cellsString] at this; simpa using this
      have h3 : DataW.trod enc Tryd.prog w base spare held n 22 [c3] = some y3 := by have := g3; rw [cellsEntries] at this; simpa using this
      obtain ⟨k0, hk0, _, w0⟩ := DataW.trod_int Tryd.underlying3 h0
      obtain ⟨s1, hk1, _, w1⟩ := DataW.trod_string Tryd.underlying9 h1
      obtain ⟨s2, hk2, _, w2⟩ := DataW.trod_string Tryd.underlying9 h2
      obtain ⟨v3, l3, hk3, o3, ⟨a3, cp3, e3, hc3⟩, n3, _⟩ := open_ents h3
      simp at hk0 hk1 hk2 hk3
      subst hk0 hk1 hk2 hk3
      exact ⟨(k0, s1.data.toList, s2.data.toList, l3), c3, by simp only [← str_list], o3, fun a c e => by rw [e3] at e; cases e; exact hc3, w1, w2, n3⟩

set_option maxRecDepth 100000 in
/-- a slice of calls that came in -/
theorem open_ops7 {W : World} {v : Value} {d : DataW H} {p : List MemPlace} (hv : Value.okWide Tryd.prog W .any base 40 v) (h : DataW.Trod enc Tryd.prog W 0 (fun _ => true) true 40 v d p) :
    ∃ l : List Op7, Ops7In W (· < W.heap.size) v l ∧ l.length ≤ maxLen ∧ ∀ y ∈ l, Op7Ok y := by
  obtain ⟨a0, len, cap, rfl⟩ := okWide_slice Tryd.underlying40 hv
  obtain ⟨fuel, hf⟩ := h
  rcases Deep.open_slice Tryd.underlying40 hf with ⟨hcs, _⟩ | ⟨a, len', cap', m, n, D, Pl, hcs, _, hl, hm, hmm, _, hx⟩
  · simp [Value.cells] at hcs
    obtain ⟨rfl, rfl, rfl⟩ := hcs
    exact ⟨[], ⟨none, 0, rfl, fun k x hx => by simp at hx⟩, by simp, by simp⟩
  · simp [Value.cells] at hcs
    obtain ⟨rfl, rfl, rfl⟩ := hcs
    rw [cellsOp7] at hx
    simp only [if_true] at hmm
    obtain ⟨f, hfn⟩ := Deep.choose_lt (α := Op7) (n := len) (p := fun i x => ∃ u, W.cell? (a.add (i * 4)) = some (.int .i64 x.1) ∧ W.cell? (a.add (i * 4 + 1)) = some (.string ⟨x.2.1.toArray⟩) ∧ W.cell? (a.add (i * 4 + 2)) = some (.string ⟨x.2.2.1.toArray⟩) ∧ W.cell? (a.add (i * 4 + 3)) = some u ∧ EntsIn W (fun _ => True) u x.2.2.2 ∧ (∀ a c, u = .slice a x.2.2.2.length c → x.2.2.2.length ≤ c) ∧ Op7Ok x) (fun i hi => by
      obtain ⟨cs', h1, h2⟩ := hx i (by omega)
      obtain ⟨y, u, rfl, hku, hcu, hok⟩ := open_op7 h2
      obtain ⟨_, _, hc⟩ := World.cells?_some h1
      have c0 := hc 0 (by omega)
      have c1 := hc 1 (by omega)
      have c2 := hc 2 (by omega)
      have c3 := hc 3 (by omega)
      rw [Deep.add_add] at c0 c1 c2 c3
      exact ⟨y, u, by simpa using c0, by simpa using c1, by simpa using c2, by simpa using c3, hku, hcu, hok⟩)
    refine ⟨(List.range len).map f, ?_, by simp; omega, ?_⟩
    · refine ⟨some a, cap, by simp, fun k x hkx => ?_⟩
      have hlt : k < len := by
        have := (List.getElem?_eq_some_iff.1 hkx).1; simpa using this
      have hfx : f k = x := by simpa [hlt] using hkx
      obtain ⟨u, c0, c1, c2, c3, hku, hcu, _⟩ := hfn k hlt
      rw [hfx] at c0 c1 c2 hku hcu
      obtain ⟨_, z0, _⟩ := hfn 0 (by omega)
      obtain ⟨b, off, rfl⟩ := plain_addr c0 ⟨_, by simpa using z0⟩
      rw [addr_add] at c0 c1 c2 c3
      exact ⟨b, off, u, rfl, lt_of_cell c0, c0, by rw [Nat.add_assoc]; exact c1, by rw [Nat.add_assoc]; exact c2, by rw [Nat.add_assoc]; exact c3, RowIn.mono hku (fun _ _ h => h), hcu⟩
    · intro x hxm
      obtain ⟨i, hi, rfl⟩ := List.mem_map.1 hxm
      obtain ⟨u, _, _, _, _, _, _, hok⟩ := hfn i (List.mem_range.1 hi)
      exact hok
end
end Go.Proofs.YtddmjbmfkdhhgaaDoor
