/-
  What is proved here: the statements' own Great (cohortlaw02), over this program: where it says no, the Ops are light.
-/
import Derived.Test.YtaaaibnalhmmgaaDoorWS
import Derived.Deep.RegionWith
namespace Go.Proofs.YtaaaibnalhmmgaaDoor
open Go.RowKit Go.Extern.Stop Go.Stop Go.Extern

def lensW (l : List (List UInt8)) : Nat := (l.map fun s => min s.length 400000).sum
def opW (x : OpD) : Nat := 20 + min (OpD.s x).length 400000 + 8 * min (OpD.m x).length 40000 + 8 * min (OpD.l x).length 40000 + lensW (OpD.l x)
def opsW (l : List OpD) : Nat := (l.map opW).sum
theorem lensW_take (l : List (List UInt8)) (k : Nat) (x : List UInt8) (hx : l[k]? = some x) : lensW (l.take (k + 1)) = lensW (l.take k) + min x.length 400000 := by
  have hlt : k < l.length := (List.getElem?_eq_some_iff.1 hx).1
  have he : l[k] = x := (List.getElem?_eq_some_iff.1 hx).2
  unfold lensW
  rw [List.take_succ_eq_append_getElem hlt, he]; simp
theorem opsW_take (l : List OpD) (k : Nat) (x : OpD) (hx : l[k]? = some x) : opsW (l.take (k + 1)) = opsW (l.take k) + opW x := by
  have hlt : k < l.length := (List.getElem?_eq_some_iff.1 hx).1
  have he : l[k] = x := (List.getElem?_eq_some_iff.1 hx).2
  unfold opsW
  rw [List.take_succ_eq_append_getElem hlt, he]; simp

/-- what Great answers: no only where the Ops are light -/
def GreatPost (l : List OpD) (e : Ending) : Prop := ∃ g : Bool, e = .returned (.bool g) ∧ (g = false → opsW l < 400000)
theorem below_drewN (w : World) (n : Nat) : Below w.heap.size w (w.drewN n) := ⟨rfl, rfl, rfl, Nat.le_refl _, fun _ _ => rfl⟩

set_option maxRecDepth 100000 in
set_option maxHeartbeats 8000000 in
theorem Great_any (B : Nat) (sl : Value) (l : List OpD) (w : World) (hs : OpsIn w (· < B) sl l) (hlen : l.length ≤ maxLen) (hok : ∀ x ∈ l, OpOk x) :
    Calls Tryd.prog 10 #[sl] w fun e w' => GreatPost l e ∧ Below w.heap.size w w' := by
  obtain ⟨a, cap, rfl, hst⟩ := hs
  have HS : Hid (OpsIn w (· < B) (.slice a l.length cap) l) := ⟨a, cap, rfl, hst⟩
  have HZ := hideIt hok
  unfold maxLen at hlen
  clear hst hok
  go_enter Tryd.func10, Tryd.ntmps10
  go_wp2
  go_loopw [3, 4] (fun n i wr => ∃ (k N : Nat), k ≤ l.length ∧ i = .int .i64 k ∧ n = .int .i64 N ∧ N ≤ 1500000 ∧ Hid (N < 400000 → N = opsW (l.take k)) ∧ Hid (Below w.heap.size w wr)) (fun _ i _ => l.length - (intOf i).toNat)
  case atStart => exact ⟨0, 0, Nat.zero_le _, rfl, rfl, by decide, fun _ => rfl, Below.refl _ _⟩
  case round =>
    obtain ⟨k, N, hk, rfl, rfl, hN, HN, HB⟩ := hrel
    by_cases hlt : k < l.length
    · by_cases hn : N < 400000
      · obtain ⟨x, hx⟩ : ∃ x, l[k]? = some x := ⟨l[k], by simp [hlt]⟩
        obtain ⟨a', cap', e1, hst⟩ := HS.out.kept (Kept.of_below HB.out (fun _ h _ => by omega))
        cases e1
        obtain ⟨b, off, vs, vl, vm, rfl, hbb, c0, c1, c2, c3, c4, y2, y3, y4⟩ := hst k x hx
        obtain ⟨a2, cap2, rfl, _⟩ := y2.form
        obtain ⟨a3, cap3, rfl⟩ := y3.form
        obtain ⟨a4, cap4, rfl⟩ := y4.form
        obtain ⟨_, _, z2, ⟨z3, z3'⟩, ⟨z4, _⟩⟩ := HZ.out x (List.mem_of_getElem? hx)
        unfold maxLen at z2 z3 z4
        have HT := hideIt (opsW_take l k x hx)
        have hn2 : (N : Int) < 400000 := by omega
        clear c0 c1 hst hx y2 y4
        go_wp2
        go_quiet (fail)
        have HBq := hideIt (HB.out.trans ((below_drewN wr nq).mono HB.out.size))
        have d3 : (wr.drewN nq).cell? ⟨b, off + k * 5 + 3, none⟩ = some (.slice a3 (OpD.l x).length cap3) := c3
        have HY3 : Hid (TextsIn (wr.drewN nq) (· < B) (.slice a3 (OpD.l x).length cap3) (OpD.l x)) := y3.kept (Kept.of_all (below_drewN wr nq))
        generalize wr.drewN nq = w2 at HBq d3 HY3 ⊢
        obtain ⟨N1, hN1⟩ : ∃ N1 : Nat, N1 = N + 20 + min (OpD.s x).length 400000 + 8 * min (OpD.m x).length 40000 + 8 * min (OpD.l x).length 40000 := ⟨_, rfl⟩
        have hN1' : ((N : Int) + 20 + min ((OpD.s x).length : Int) 400000 + 8 * min ((OpD.m x).length : Int) 40000 + 8 * min ((OpD.l x).length : Int) 40000) = (N1 : Int) := by omega
        rw [hN1']
        have hN1b : N1 ≤ 1500000 := by omega
        have HN1 : Hid (N1 + lensW (OpD.l x) = N + opW x) := by unfold Hid opW; omega
        have HNN : Hid (N = opsW (l.take k)) := HN.out hn
        have hz3 := z3'
        have HZ3 := hideIt hz3
        clear c2 c3 c4 y3 hN1 hN1' z2 z4 z3' hz3 HN
        go_wp2
        go_loop [3, 5] (fun n i => ∃ (j M : Nat), j ≤ (OpD.l x).length ∧ i = .int .i64 j ∧ n = .int .i64 M ∧ M ≤ 1500000 ∧ Hid (M < 400000 → M = N1 + lensW ((OpD.l x).take j))) (fun _ i => (OpD.l x).length - (intOf i).toNat)
        case atStart => exact ⟨0, N1, Nat.zero_le _, rfl, rfl, hN1b, fun _ => rfl⟩
        case round =>
          obtain ⟨j, M, hj, rfl, rfl, hM, HM⟩ := hrel
          by_cases hlj : j < (OpD.l x).length
          · by_cases hm : M < 400000
            · obtain ⟨y, hy⟩ : ∃ y, (OpD.l x)[j]? = some y := ⟨(OpD.l x)[j], by simp [hlj]⟩
              obtain ⟨b3, off3, u3, rfl, hb3, e3, ey⟩ := HY3.out.at hy
              obtain ⟨a5, cap5, rfl, _⟩ := ey.form
              have hyl := HZ3.out y (List.mem_of_getElem? hy)
              unfold maxLen at hyl
              have HLT := hideIt (lensW_take (OpD.l x) j y hy)
              have hm2 : (M : Int) < 400000 := by omega
              clear hy ey
              go_wp2
              refine ⟨⟨j + 1, M + min y.length 400000, by omega, by go_num, congrArg (Value.int .i64) (by omega), by omega, ?_⟩, by simp [intOf]; omega⟩
              intro hlt2
              have h1 := HM.out hm
              rw [HLT.out]; omega
            · have hm2 : ¬ (M : Int) < 400000 := by omega
              go_wp2
              refine ⟨⟨k + 1, M, by omega, by go_num, rfl, hM, (fun h => absurd h hm), HBq.out⟩, by simp [intOf]; omega⟩
          · have ej : (OpD.l x).take j = OpD.l x := List.take_of_length_le (by omega)
            have HEJ := hideIt ej
            clear ej
            go_wp2
            refine ⟨⟨k + 1, M, by omega, by go_num, rfl, hM, (fun h => ?_), HBq.out⟩, by simp [intOf]; omega⟩
            have h1 := HM.out h
            rw [HEJ.out] at h1
            rw [HT.out, ← HNN.out]; have := HN1.out; omega
      · have hn2 : ¬ (N : Int) < 400000 := by omega
        go_wp2
        go_ret
        exact ⟨⟨_, rfl, fun h => by simp at h⟩, HB.out⟩
    · have ek : l.take k = l := List.take_of_length_le (by omega)
      have HE := hideIt ek
      clear ek
      go_wp2
      go_ret
      refine ⟨⟨_, rfl, fun h => ?_⟩, HB.out⟩
      have h1 : N < 400000 := by simp at h; omega
      have h2 := HN.out h1
      rw [HE.out] at h2; omega
end Go.Proofs.YtaaaibnalhmmgaaDoor
