/-
  What is proved here: the statements' own Great, the document's Same and Has; over this program.
-/
import Derived.Test.YtohlepbfjgehgaaGreatDoorTJ
namespace Go.Proofs.YtohlepbfjgehgaaGreatDoor
open Go.RowKit Go.Extern.Stop Go.Stop Go.Extern

def LightT (N : Nat) (e : Ending) : Prop := ∃ g : Bool, e = .returned (.bool g) ∧ (g = false → N < 3000)
set_option maxRecDepth 100000 in
set_option maxHeartbeats 8000000 in
theorem Great10_any (w : World) (A : Nat → Prop) (c n : Int) (rv wv : Value) (rs : List Rd) (ws : List Wr) (hr : RdsIn w A rv rs) (hw : WrsIn w A wv ws) (hrl : rs.length ≤ 140737488355328) (hwl : ws.length ≤ 140737488355328) :
    Calls Tryz.prog 9 #[.agg #[.int .i64 c, .int .i64 n, rv, wv]] w fun e w' => LightT (rs.length + ws.length) e ∧ Below w.heap.size w w' := by
  have HRV := hideIt (RowIn.lt hr)
  have HWV := hideIt (RowIn.lt hw)
  obtain ⟨ar, cr, rfl⟩ := hr.form
  obtain ⟨aw, cw, rfl⟩ := hw.form
  obtain ⟨W, hW, hwb, hws, c0, c1, c2, c3⟩ := room4t w 25 (.int .i64 c) (.int .i64 n) (.slice ar rs.length cr) (.slice aw ws.length cw)
  have HWB := hideIt hwb
  have HC : Hid (∀ X, Below W.heap.size W X → X.cell? ⟨w.heap.size, 2, none⟩ = some (.slice ar rs.length cr) ∧ X.cell? ⟨w.heap.size, 3, none⟩ = some (.slice aw ws.length cw) ∧ RdsIn X (· < w.heap.size) (.slice ar rs.length cr) rs ∧ WrsIn X (· < w.heap.size) (.slice aw ws.length cw) ws) := hideIt fun X hX =>
    have hk := hwb.trans (hX.mono hwb.size)
    ⟨(hX.cell (lt_of_cell c2)).trans c2, (hX.cell (lt_of_cell c3)).trans c3, RowIn.kept HRV.out (Kept.of_below hk (fun _ h _ => h)), RowIn.kept HWV.out (Kept.of_below hk (fun _ h _ => h))⟩
  have hsum : IntKind.i64.wrap ((rs.length : Int) + (ws.length : Int)) = (rs.length : Int) + (ws.length : Int) := by simp [IntKind.wrap, IntKind.bits, IntKind.signed]; omega
  clear hr hw hwb hws c0 c1 HRV HWV
  subst hW
  go_enter Tryz.func9, Tryz.ntmps9
  go_wp2
  clear hsum c2 c3
  generalize w.alloc (.cells #[.int .i64 c, .int .i64 n, .slice ar rs.length cr, .slice aw ws.length cw] 25) = W at HWB HC ⊢
  go_loopw [3, 4] (fun z i wr => ∃ (k : Nat) (m : Int), k ≤ ws.length ∧ i = .int .i64 k ∧ z = .int .i64 m ∧ (rs.length : Int) + (ws.length : Int) ≤ m ∧ m ≤ 281474976720000 ∧ Hid (Below W.heap.size W wr)) (fun _ i _ => ws.length - (intOf i).toNat)
  case atStart => exact ⟨0, _, Nat.zero_le _, rfl, rfl, by omega, by omega, Below.refl _ _⟩
  case round =>
    obtain ⟨k, m, hk, rfl, rfl, hm0, hm7, HB⟩ := hrel
    obtain ⟨c2, c3, hR, hWr⟩ := HC.out wr HB.out
    by_cases hlt : k < ws.length
    · by_cases hm : m < 3000
      · obtain ⟨x, hx⟩ : ∃ x, ws[k]? = some x := ⟨ws[k], by simp [hlt]⟩
        obtain ⟨b, off, rfl, _, d0, d1⟩ := WrsIn.at hWr hx
        clear hx hR hWr
        go_wp2_with fail
        refine wp_region_quiet_grow (by kernel_rfl) (by kernel_rfl) ?_
        intro ι _ f hf hn
        have s2 := fun i => ((hf i).cell (lt_of_cell c2)).trans c2
        have s3 := fun i => ((hf i).cell (lt_of_cell c3)).trans c3
        have t0 := fun i => ((hf i).cell (lt_of_cell d0)).trans d0
        have t1 := fun i => ((hf i).cell (lt_of_cell d1)).trans d1
        have HSF := hideIt hf
        clear hf hn c2 c3 d0 d1
        repeat (go_big_quiet_step (fail))
        refine wpQuiet_nil ?_
        rintro w7 ⟨i, rfl⟩
        have HB7 := hideIt (HB.out.trans ((HSF.out i).mono HB.out.size))
        go_wp2
        exact ⟨⟨k + 1, _, by omega, by go_num, rfl, by go_num, by go_num, HB7⟩, by simp [intOf]; omega⟩
      · clear hR hWr
        go_wp2
        go_loopw [3, 5] (fun z i wr => ∃ (k : Nat) (m : Int), k ≤ rs.length ∧ i = .int .i64 k ∧ z = .int .i64 m ∧ (rs.length : Int) + (ws.length : Int) ≤ m ∧ m ≤ 281474976720000 ∧ Hid (Below W.heap.size W wr)) (fun _ i _ => rs.length - (intOf i).toNat)
        case atStart => exact ⟨0, m, Nat.zero_le _, rfl, rfl, by omega, by omega, HB⟩
        case round =>
          obtain ⟨k, m, hk, rfl, rfl, hm0, hm7, HB⟩ := hrel
          obtain ⟨c2, c3, hR, hWr⟩ := HC.out wr HB.out
          have HBE := hideIt (HWB.out.trans (HB.out.mono HWB.out.size))
          by_cases hlt : k < rs.length
          · by_cases hm : m < 3000
            · obtain ⟨x, hx⟩ : ∃ x, rs[k]? = some x := ⟨rs[k], by simp [hlt]⟩
              obtain ⟨b, off, rfl, _, d0, d1⟩ := RdsIn.at hR hx
              clear hx hR hWr
              go_wp2
              exact ⟨⟨k + 1, _, by omega, by go_num, rfl, by go_num, by go_num, HB⟩, by simp [intOf]; omega⟩
            · clear hR hWr
              go_wp2
              go_ret
              exact ⟨⟨_, rfl, fun h => by simp at h <;> omega⟩, HBE.out⟩
          · clear hR hWr
            go_wp2
            go_ret
            exact ⟨⟨_, rfl, fun h => by simp at h <;> omega⟩, HBE.out⟩
    · clear hR hWr
      go_wp2
      go_loopw [3, 5] (fun z i wr => ∃ (k : Nat) (m : Int), k ≤ rs.length ∧ i = .int .i64 k ∧ z = .int .i64 m ∧ (rs.length : Int) + (ws.length : Int) ≤ m ∧ m ≤ 281474976720000 ∧ Hid (Below W.heap.size W wr)) (fun _ i _ => rs.length - (intOf i).toNat)
      case atStart => exact ⟨0, m, Nat.zero_le _, rfl, rfl, by omega, by omega, HB⟩
      case round =>
        obtain ⟨k, m, hk, rfl, rfl, hm0, hm7, HB⟩ := hrel
        obtain ⟨c2, c3, hR, hWr⟩ := HC.out wr HB.out
        have HBE := hideIt (HWB.out.trans (HB.out.mono HWB.out.size))
        by_cases hlt : k < rs.length
        · by_cases hm : m < 3000
          · obtain ⟨x, hx⟩ : ∃ x, rs[k]? = some x := ⟨rs[k], by simp [hlt]⟩
            obtain ⟨b, off, rfl, _, d0, d1⟩ := RdsIn.at hR hx
            clear hx hR hWr
            go_wp2
            exact ⟨⟨k + 1, _, by omega, by go_num, rfl, by go_num, by go_num, HB⟩, by simp [intOf]; omega⟩
          · clear hR hWr
            go_wp2
            go_ret
            exact ⟨⟨_, rfl, fun h => by simp at h <;> omega⟩, HBE.out⟩
        · clear hR hWr
          go_wp2
          go_ret
          exact ⟨⟨_, rfl, fun h => by simp at h <;> omega⟩, HBE.out⟩

theorem rd_ext (x y : Rd) : x = y ↔ x.1 = y.1 ∧ x.2 = y.2 := by
  obtain ⟨a, b⟩ := x
  obtain ⟨a', b'⟩ := y
  simp
theorem eql_rd (x y : Rd) (w : World) : (Op.equalIn 10000 54 (.agg #[.string ⟨x.1.toArray⟩, .int .i64 x.2]) (.agg #[.string ⟨y.1.toArray⟩, .int .i64 y.2])).run Tryz.prog w = .ok (decide (x = y)) w := by
  have u3 := Tryz.underlying2
  have a3 := Tryz.isAgg2
  have z3 := Tryz.sizeOf2
  have u9 := Tryz.underlying9
  have a9 := Tryz.isAgg9
  have z9 := Tryz.sizeOf9
  have hS : Tryz.prog.underlying 54 = some (.struct (Tryz.prog.fieldsOf 54)) := by kernel_rfl
  have hp : Tryz.prog.stoodInHeld 54 = false := by kernel_rfl
  rw [show (10000 : Nat) = 9999 + 1 from rfl, run_equalIn_agg w 9999 54 _ _ hS hp]
  simp only [Program.fieldsOf, Tryz.underlying54]
  go_simp
  have e := rd_ext x y
  by_cases h1 : x.1 = y.1 <;> by_cases h2 : x.2 = y.2 <;> simp [h1, h2, e]
theorem neq_rd (x y : Rd) (w : World) : (binOp .neq 54 (.agg #[.string ⟨x.1.toArray⟩, .int .i64 x.2]) (.agg #[.string ⟨y.1.toArray⟩, .int .i64 y.2])).run Tryz.prog w = .ok (.bool (!decide (x = y))) w := by
  rw [run_neq_struct, eql_rd]; simp [Result.andThen]
theorem wr_ext (x y : Wr) : x = y ↔ x.1 = y.1 ∧ x.2 = y.2 := by
  obtain ⟨a, b⟩ := x
  obtain ⟨a', b'⟩ := y
  simp
theorem eql_wr (x y : Wr) (w : World) : (Op.equalIn 10000 48 (.agg #[.string ⟨x.1.toArray⟩, .string ⟨(x.2).toArray⟩]) (.agg #[.string ⟨y.1.toArray⟩, .string ⟨(y.2).toArray⟩])).run Tryz.prog w = .ok (decide (x = y)) w := by
  have u3 := Tryz.underlying2
  have a3 := Tryz.isAgg2
  have z3 := Tryz.sizeOf2
  have u9 := Tryz.underlying9
  have a9 := Tryz.isAgg9
  have z9 := Tryz.sizeOf9
  have hS : Tryz.prog.underlying 48 = some (.struct (Tryz.prog.fieldsOf 48)) := by kernel_rfl
  have hp : Tryz.prog.stoodInHeld 48 = false := by kernel_rfl
  rw [show (10000 : Nat) = 9999 + 1 from rfl, run_equalIn_agg w 9999 48 _ _ hS hp]
  simp only [Program.fieldsOf, Tryz.underlying48]
  go_simp
  have e := wr_ext x y
  by_cases h1 : x.1 = y.1 <;> by_cases h2 : x.2 = y.2 <;> simp [h1, h2, e]
theorem neq_wr (x y : Wr) (w : World) : (binOp .neq 48 (.agg #[.string ⟨x.1.toArray⟩, .string ⟨(x.2).toArray⟩]) (.agg #[.string ⟨y.1.toArray⟩, .string ⟨(y.2).toArray⟩])).run Tryz.prog w = .ok (.bool (!decide (x = y))) w := by
  rw [run_neq_struct, eql_wr]; simp [Result.andThen]
set_option maxRecDepth 100000 in
set_option maxHeartbeats 8000000 in
theorem txSame_true (w : World) (A A2 : Nat → Prop) (c n : Int) (rv wv rv2 wv2 : Value) (rs : List Rd) (ws : List Wr) (hr : RdsIn w A rv rs) (hw : WrsIn w A wv ws) (hr2 : RdsIn w A2 rv2 rs) (hw2 : WrsIn w A2 wv2 ws) (hrl : rs.length ≤ 1000000) (hwl : ws.length ≤ 1000000) :
    Calls Tryz.prog 13 #[.agg #[.int .i64 c, .int .i64 n, rv, wv], .agg #[.int .i64 c, .int .i64 n, rv2, wv2]] w fun e w' => e = .returned (.bool true) ∧ Below w.heap.size w w' := by
  have HRV := hideIt (RowIn.lt hr)
  have HWV := hideIt (RowIn.lt hw)
  have HRV2 := hideIt (RowIn.lt hr2)
  have HWV2 := hideIt (RowIn.lt hw2)
  obtain ⟨ar, cr, rfl⟩ := hr.form
  obtain ⟨aw, cw, rfl⟩ := hw.form
  obtain ⟨ar2, cr2, rfl⟩ := hr2.form
  obtain ⟨aw2, cw2, rfl⟩ := hw2.form
  obtain ⟨W1, hW1, hwb1, hws1, c0, c1, c2, c3⟩ := room4t w 25 (.int .i64 c) (.int .i64 n) (.slice ar rs.length cr) (.slice aw ws.length cw)
  obtain ⟨W, hW, hwb, hws, d0, d1, d2, d3⟩ := room4t W1 25 (.int .i64 c) (.int .i64 n) (.slice ar2 rs.length cr2) (.slice aw2 ws.length cw2)
  rw [hws1] at d0 d1 d2 d3
  have hwbb := hwb1.trans (hwb.mono hwb1.size)
  have e0 := (hwb.cell (lt_of_cell c0)).trans c0
  have e1 := (hwb.cell (lt_of_cell c1)).trans c1
  have e2 := (hwb.cell (lt_of_cell c2)).trans c2
  have e3 := (hwb.cell (lt_of_cell c3)).trans c3
  have HWB := hideIt hwbb
  have HC : Hid (∀ X, Below W.heap.size W X → (X.cell? ⟨w.heap.size, 2, none⟩ = some (.slice ar rs.length cr) ∧ X.cell? ⟨w.heap.size, 3, none⟩ = some (.slice aw ws.length cw) ∧ X.cell? ⟨w.heap.size + 1, 2, none⟩ = some (.slice ar2 rs.length cr2) ∧ X.cell? ⟨w.heap.size + 1, 3, none⟩ = some (.slice aw2 ws.length cw2)) ∧ Below w.heap.size w X) := hideIt fun X hX =>
    ⟨⟨(hX.cell (lt_of_cell e2)).trans e2, (hX.cell (lt_of_cell e3)).trans e3, (hX.cell (lt_of_cell d2)).trans d2, (hX.cell (lt_of_cell d3)).trans d3⟩, hwbb.trans (hX.mono hwbb.size)⟩
  have hn1 : (n == n) = true := by simp
  have hc1 : (c == c) = true := by simp
  clear hr hw hr2 hw2 hwb hwb1 hws hws1 hwbb c0 c1 c2 c3
  subst hW
  subst hW1
  go_enter Tryz.func13, Tryz.ntmps13
  go_wp2
  clear e0 e1 e2 e3 d0 d1 d2 d3 hn1 hc1
  generalize (w.alloc (.cells #[.int .i64 c, .int .i64 n, .slice ar rs.length cr, .slice aw ws.length cw] 25)).alloc (.cells #[.int .i64 c, .int .i64 n, .slice ar2 rs.length cr2, .slice aw2 ws.length cw2] 25) = W at HWB HC ⊢
  go_loopw [5] (fun i wr => ∃ k : Nat, k ≤ rs.length ∧ i = .int .i64 k ∧ Hid (Below W.heap.size W wr)) (fun i _ => rs.length - (intOf i).toNat)
  case atStart => exact ⟨0, Nat.zero_le _, rfl, Below.refl _ _⟩
  case round =>
    obtain ⟨k, hk, rfl, HB⟩ := hrel
    obtain ⟨⟨c2, c3, c6, c7⟩, hbX⟩ := HC.out wr HB.out
    by_cases hlt : k < rs.length
    · obtain ⟨x, hx⟩ : ∃ x, rs[k]? = some x := ⟨rs[k], by simp [hlt]⟩
      obtain ⟨b, off, rfl, _, d0, d1⟩ := RdsIn.at (RowIn.low HRV.out hbX) hx
      obtain ⟨b2, off2, rfl, _, g0, g1⟩ := RdsIn.at (RowIn.low HRV2.out hbX) hx
      have hne := fun w => neq_rd x x w
      rw [decide_eq_true (rfl : x = x)] at hne
      clear hx hbX
      go_wp2_with fail
      refine wp_region_quiet_grow (by kernel_rfl) (by kernel_rfl) ?_
      intro ι _ f hf hn
      have s2 := fun i => ((hf i).cell (lt_of_cell c2)).trans c2
      have s6 := fun i => ((hf i).cell (lt_of_cell c6)).trans c6
      have t0 := fun i => ((hf i).cell (lt_of_cell d0)).trans d0
      have t1 := fun i => ((hf i).cell (lt_of_cell d1)).trans d1
      have u0 := fun i => ((hf i).cell (lt_of_cell g0)).trans g0
      have u1 := fun i => ((hf i).cell (lt_of_cell g1)).trans g1
      have HSF := hideIt hf
      clear hf hn c2 c3 c6 c7 d0 d1 g0 g1
      repeat (go_big_quiet_step (fail))
      refine wpQuiet_nil ?_
      rintro w7 ⟨i, rfl⟩
      have HB7 := hideIt (HB.out.trans ((HSF.out i).mono HB.out.size))
      go_wp2
      exact ⟨⟨k + 1, by omega, by go_num, HB7⟩, by simp [intOf]; omega⟩
    · clear hbX
      go_wp2
      go_loopw [6] (fun i wr => ∃ k : Nat, k ≤ ws.length ∧ i = .int .i64 k ∧ Hid (Below W.heap.size W wr)) (fun i _ => ws.length - (intOf i).toNat)
      case atStart => exact ⟨0, Nat.zero_le _, rfl, HB⟩
      case round =>
        obtain ⟨k, hk, rfl, HB⟩ := hrel
        obtain ⟨⟨c2, c3, c6, c7⟩, hbX⟩ := HC.out wr HB.out
        by_cases hlt : k < ws.length
        · obtain ⟨x, hx⟩ : ∃ x, ws[k]? = some x := ⟨ws[k], by simp [hlt]⟩
          obtain ⟨b, off, rfl, _, d0, d1⟩ := WrsIn.at (RowIn.low HWV.out hbX) hx
          obtain ⟨b2, off2, rfl, _, g0, g1⟩ := WrsIn.at (RowIn.low HWV2.out hbX) hx
          have hne := fun w => neq_wr x x w
          rw [decide_eq_true (rfl : x = x)] at hne
          clear hx hbX
          go_wp2_with fail
          refine wp_region_quiet_grow (by kernel_rfl) (by kernel_rfl) ?_
          intro ι _ f hf hn
          have s3 := fun i => ((hf i).cell (lt_of_cell c3)).trans c3
          have s7 := fun i => ((hf i).cell (lt_of_cell c7)).trans c7
          have t0 := fun i => ((hf i).cell (lt_of_cell d0)).trans d0
          have t1 := fun i => ((hf i).cell (lt_of_cell d1)).trans d1
          have u0 := fun i => ((hf i).cell (lt_of_cell g0)).trans g0
          have u1 := fun i => ((hf i).cell (lt_of_cell g1)).trans g1
          have HSF := hideIt hf
          clear hf hn c2 c3 c6 c7 d0 d1 g0 g1
          repeat (go_big_quiet_step (fail))
          refine wpQuiet_nil ?_
          rintro w7 ⟨i, rfl⟩
          have HB7 := hideIt (HB.out.trans ((HSF.out i).mono HB.out.size))
          go_wp2
          exact ⟨⟨k + 1, by omega, by go_num, HB7⟩, by simp [intOf]; omega⟩
        · have HBE := hideIt hbX
          clear hbX
          go_wp2
          go_ret
          exact ⟨rfl, HBE.out⟩
set_option maxRecDepth 100000 in
set_option maxHeartbeats 4000000 in
theorem txHas_any (w : World) (A : Nat → Prop) (v : Value) (T : List (List UInt8)) (key : List UInt8) (hv : SIn w A v T) (hl : T.length ≤ 1000000) :
    Calls Tryz.prog 19 #[v, .string ⟨key.toArray⟩] w fun e w' => e = .returned (.bool (isIn T key)) ∧ w' = w := by
  have HV := hideIt hv
  obtain ⟨a, cap, rfl⟩ := hv.form
  clear hv
  go_enter Tryz.func19, Tryz.ntmps19
  go_wp2
  go_loop [5] (fun i => ∃ k : Nat, k ≤ T.length ∧ i = .int .i64 k ∧ Hid (∀ s ∈ T.take k, s ≠ key)) (fun i => T.length - (intOf i).toNat)
  case atStart => exact ⟨0, Nat.zero_le _, rfl, hideIt (fun s hs => by simp at hs)⟩
  case round =>
    obtain ⟨k, hk, rfl, HN⟩ := hrel
    by_cases hlt : k < T.length
    · obtain ⟨s, hs⟩ : ∃ s, T[k]? = some s := ⟨T[k], by simp [hlt]⟩
      obtain ⟨b, off, rfl, _, d0⟩ := SIn.at HV.out hs
      have HS := hideIt hs
      clear hs
      cases hq : s == key with
      | true =>
        have HE : Hid (isIn T key = true) := hideIt (by
          have e : s = key := by simpa using hq
          unfold isIn
          rw [← e]
          exact decide_eq_true (List.mem_of_getElem? HS.out))
        go_wp2
        go_ret
        exact ⟨by rw [HE.out]; rfl, rfl⟩
      | false =>
        have HN2 : Hid (∀ z ∈ T.take (k + 1), z ≠ key) := hideIt (fun z hz => by
          rw [List.take_succ_eq_append_getElem hlt, (List.getElem?_eq_some_iff.1 HS.out).2] at hz
          rcases List.mem_append.1 hz with h | h
          · exact HN.out z h
          · simp at h; subst h; simpa using hq)
        go_wp2
        exact ⟨⟨k + 1, by omega, by go_num, HN2⟩, by simp [intOf]; omega⟩
    · have HE : Hid (isIn T key = false) := hideIt (by
        unfold isIn
        refine decide_eq_false (fun h => ?_)
        have := HN.out
        rw [show k = T.length by omega, List.take_length] at this
        exact this key h rfl)
      go_wp2
      go_ret
      exact ⟨by rw [HE.out]; rfl, rfl⟩
end Go.Proofs.YtohlepbfjgehgaaGreatDoor
