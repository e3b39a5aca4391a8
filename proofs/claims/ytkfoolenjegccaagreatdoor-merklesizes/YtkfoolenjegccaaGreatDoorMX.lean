/-
  What is proved here: the statements' own great and greatProof, and the document's Same (cohortlaw06, cohortref06), over this program.
-/
import Derived.Test.YtkfoolenjegccaaGreatDoorMW
namespace Go.Proofs.YtkfoolenjegccaaGreatDoor
open Go.RowKit Go.Extern.Stop Go.Stop Go.Extern

def wgtE (l : List Ent) : Nat := (l.map fun e => 10 + min e.1.length 60000 + min e.2.1.length 60000).sum
theorem wgtE_take (l : List Ent) (k : Nat) (x : Ent) (hx : l[k]? = some x) : wgtE (l.take (k + 1)) = wgtE (l.take k) + (10 + min x.1.length 60000 + min x.2.1.length 60000) := by
  have hlt : k < l.length := (List.getElem?_eq_some_iff.1 hx).1
  have he : l[k] = x := (List.getElem?_eq_some_iff.1 hx).2
  unfold wgtE
  rw [List.take_succ_eq_append_getElem hlt, he]; simp
theorem wgtE_len (l : List Ent) : 10 * l.length ≤ wgtE l := by
  induction l with
  | nil => simp [wgtE]
  | cons x r ih => simp only [wgtE, List.map_cons, List.sum_cons, List.length_cons] at ih ⊢; omega
/-- what great answers: no only where the entries are few -/
def LightE (l : List Ent) (e : Ending) : Prop := ∃ g : Bool, e = .returned (.bool g) ∧ (g = false → l.length ≤ 6000)

set_option maxRecDepth 100000 in
set_option maxHeartbeats 4000000 in
theorem great06_any (A : Nat → Prop) (sl : Value) (l : List Ent) (w : World) (hs : EntsIn w A sl l) (hlen : l.length ≤ maxLen) (hsz : ∀ x ∈ l, x.1.length ≤ maxLen ∧ x.2.1.length ≤ maxLen) :
    Calls Tryz.prog 12 #[sl] w fun e w' => LightE l e ∧ Below w.heap.size w w' := by
  have HS := hideIt (hs.mono (A' := (· < w.heap.size)) (fun _ _ h => h))
  obtain ⟨a, cap, rfl⟩ := hs.form
  have HZ := hideIt hsz
  unfold maxLen at hlen
  clear hs hsz
  go_enter Tryz.func12, Tryz.ntmps12
  go_wp2
  go_loopw [3, 4] (fun n i wr => ∃ k : Nat, k ≤ l.length ∧ i = .int .i64 k ∧ n = .int .i64 (wgtE (l.take k)) ∧ wgtE (l.take k) ≤ 200000 ∧ Hid (Below w.heap.size w wr)) (fun _ i _ => l.length - (intOf i).toNat)
  case atStart => exact ⟨0, Nat.zero_le _, rfl, rfl, by simp [wgtE], Below.refl _ _⟩
  case round =>
    obtain ⟨k, hk, rfl, rfl, hw0, HBW⟩ := hrel
    have HSW : Hid (EntsIn wr (· < w.heap.size) (.slice a l.length cap) l) := hideIt (RowIn.kept HS.out (Kept.of_below HBW.out (fun _ h _ => h)))
    have hw : ((wgtE (l.take k) : Nat) : Int) ≤ 200000 := by omega
    clear hw0
    by_cases hlt : k < l.length
    · by_cases hn : ((wgtE (l.take k) : Nat) : Int) < 60000
      · obtain ⟨x, hx⟩ : ∃ x, l[k]? = some x := ⟨l[k], by simp [hlt]⟩
        obtain ⟨b, off, rfl, _, c0, c1, _⟩ := EntsIn.at HSW.out hx
        have hxs := (HZ.out x (List.mem_of_getElem? hx)).1
        have hxs2 := (HZ.out x (List.mem_of_getElem? hx)).2
        unfold maxLen at hxs hxs2
        have HW := hideIt (wgtE_take l k x hx)
        clear hx
        go_wp2_with fail
        go_quiet (fail)
        have HB2 := hideIt (HBW.out.trans ((below_drewN wr nq).mono HBW.out.size))
        go_wp2
        have h1 := HW.out
        refine ⟨⟨k + 1, by omega, by go_num, congrArg (Value.int .i64) (by omega), by omega, HB2.out⟩, by simp [intOf]; omega⟩
      · go_wp2
        go_ret
        exact ⟨⟨_, rfl, fun h => by simp at h⟩, HBW.out⟩
    · have ek : k = l.length := by omega
      have HE := hideIt ek
      clear ek
      by_cases hn : 60000 ≤ ((wgtE (l.take k) : Nat) : Int)
      · go_wp2
        go_ret
        exact ⟨⟨_, rfl, fun h => by simp at h⟩, HBW.out⟩
      · go_wp2
        go_ret
        refine ⟨⟨_, rfl, fun h => ?_⟩, HBW.out⟩
        have := HE.out
        subst this
        rw [List.take_length] at hn
        have := wgtE_len l
        omega

/-- what greatProof answers -/
def LightP (L : List Ent) (e : Ending) : Prop := ∃ g : Bool, e = .returned (.bool g) ∧ (g = false → L.length ≤ 6000)
set_option maxRecDepth 100000 in
set_option maxHeartbeats 4000000 in
theorem greatP06_any (A : Nat → Prop) (N F : Int) (vl : Value) (ab : Option Addr) (nb cb : Nat) (L : List Ent) (w : World) (hs : EntsIn w A vl L) (hlen : L.length ≤ maxLen) (hsz : ∀ x ∈ L, x.1.length ≤ maxLen ∧ x.2.1.length ≤ maxLen) (_hnb : nb ≤ maxLen) :
    Calls Tryz.prog 13 #[.agg #[.int .i64 N, .int .i64 F, vl, .slice ab nb cb]] w fun e w' => LightP L e ∧ Below w.heap.size w w' := by
  obtain ⟨al, cl, rfl⟩ := hs.form
  obtain ⟨W, hW, hwb, hws, ⟨c0, c1, c2, c3⟩, _⟩ := room4 w 25 (.int .i64 N) (.int .i64 F) (.slice al L.length cl) (.slice ab nb cb)
  have HWB := hideIt hwb
  have HG := hideIt (great06_any A (.slice al L.length cl) L W (RowIn.kept (RowIn.mono (A' := fun k => A k) hs (fun _ h _ => h)) (Kept.of_all hwb)) hlen hsz)
  clear hs hwb hws hsz hlen
  go_enter Tryz.func13, Tryz.ntmps13
  go_wp2_with fail
  rw [← hW]
  clear hW
  refine HG.out.mono ?_
  rintro e w1 ⟨⟨g, rfl, hg⟩, hb1⟩
  have HB1 := hideIt (HWB.out.trans (hb1.mono HWB.out.size))
  have q3 := (hb1.cell (lt_of_cell c3)).trans c3
  clear hb1
  have HGG := hideIt hg
  clear hg
  cases g with
  | true =>
    go_wp2
    go_ret
    exact ⟨⟨_, rfl, fun h => (nomatch h)⟩, HB1.out⟩
  | false =>
    go_wp2
    go_ret
    exact ⟨⟨_, rfl, fun _ => by first | exact HGG.out rfl | exact HGG.out trivial | exact HGG.out⟩, HB1.out⟩

theorem ent_ext (x y : Ent) : x = y ↔ x.1 = y.1 ∧ x.2.1 = y.2.1 ∧ x.2.2 = y.2.2 := by
  obtain ⟨a, b, c⟩ := x
  obtain ⟨a', b', c'⟩ := y
  simp
theorem eql_ent (x y : Ent) (w : World) : (Op.equalIn 10000 42 (.agg #[.string ⟨x.1.toArray⟩, .string ⟨x.2.1.toArray⟩, .int .i64 x.2.2]) (.agg #[.string ⟨y.1.toArray⟩, .string ⟨y.2.1.toArray⟩, .int .i64 y.2.2])).run Tryz.prog w = .ok (decide (x = y)) w := by
  have u3 := Tryz.underlying2
  have a3 := Tryz.isAgg2
  have z3 := Tryz.sizeOf2
  have u9 := Tryz.underlying9
  have a9 := Tryz.isAgg9
  have z9 := Tryz.sizeOf9
  have hS : Tryz.prog.underlying 42 = some (.struct (Tryz.prog.fieldsOf 42)) := by kernel_rfl
  have hp : Tryz.prog.stoodInHeld 42 = false := by kernel_rfl
  rw [show (10000 : Nat) = 9999 + 1 from rfl, run_equalIn_agg w 9999 42 _ _ hS hp]
  simp only [Program.fieldsOf, Tryz.underlying42]
  go_simp
  have e := ent_ext x y
  by_cases h1 : x.1 = y.1 <;> by_cases h2 : x.2.1 = y.2.1 <;> by_cases h3 : x.2.2 = y.2.2 <;> simp [h1, h2, h3, e]
theorem neq_ent (x y : Ent) (w : World) : (binOp .neq 42 (.agg #[.string ⟨x.1.toArray⟩, .string ⟨x.2.1.toArray⟩, .int .i64 x.2.2]) (.agg #[.string ⟨y.1.toArray⟩, .string ⟨y.2.1.toArray⟩, .int .i64 y.2.2])).run Tryz.prog w = .ok (.bool (!decide (x = y))) w := by
  rw [run_neq_struct, eql_ent]; simp [Result.andThen]
theorem eq_ent (x y : Ent) (w : World) : (binOp .eql 42 (.agg #[.string ⟨x.1.toArray⟩, .string ⟨x.2.1.toArray⟩, .int .i64 x.2.2]) (.agg #[.string ⟨y.1.toArray⟩, .string ⟨y.2.1.toArray⟩, .int .i64 y.2.2])).run Tryz.prog w = .ok (.bool (decide (x = y))) w := by
  rw [run_eql_struct, eql_ent]; simp [Result.andThen]
set_option maxRecDepth 100000 in
set_option maxHeartbeats 4000000 in
theorem Same06_any (A A2 : Nat → Prop) (va vb : Value) (a b : List Ent) (w : World) (ha : EntsIn w A va a) (hb : EntsIn w A2 vb b) (hl : a.length ≤ maxLen) :
    Calls Tryz.prog 16 #[va, vb] w fun e w' => e = .returned (.bool (decide (a = b))) ∧ Below w.heap.size w w' := by
  have HA := hideIt (ha.mono (A' := (· < w.heap.size)) (fun _ _ h => h))
  have HB := hideIt (hb.mono (A' := (· < w.heap.size)) (fun _ _ h => h))
  obtain ⟨aa, ca, rfl⟩ := ha.form
  obtain ⟨ab, cb, rfl⟩ := EntsIn.form hb
  unfold maxLen at hl
  clear ha hb
  by_cases hne : a.length = b.length
  · have HL := hideIt hne
    obtain ⟨n, hn⟩ : ∃ n, n = b.length := ⟨_, rfl⟩
    rw [← hn] at HB ⊢
    have HNB := hideIt hn
    have hna : n = a.length := by omega
    rw [hna] at HB ⊢
    clear hne hn hna
    go_enter Tryz.func16, Tryz.ntmps16
    go_wp2
    go_loopw [5] (fun i wr => ∃ k : Nat, k ≤ a.length ∧ i = .int .i64 k ∧ Hid (a.take k = b.take k) ∧ Hid (Below w.heap.size w wr)) (fun i _ => a.length - (intOf i).toNat)
    case atStart => exact ⟨0, Nat.zero_le _, rfl, rfl, Below.refl _ _⟩
    case round =>
      obtain ⟨k, hk, rfl, HT, HBW⟩ := hrel
      by_cases hlt : k < a.length
      · obtain ⟨x, hx⟩ : ∃ x, a[k]? = some x := ⟨a[k], by simp [hlt]⟩
        obtain ⟨y, hy⟩ : ∃ y, b[k]? = some y := ⟨b[k]'(by have := HL.out; omega), by simp⟩
        have HA2 : Hid (EntsIn wr (· < w.heap.size) (.slice aa a.length ca) a) := hideIt (RowIn.kept HA.out (Kept.of_below HBW.out (fun _ h _ => h)))
        have HB2 : Hid (EntsIn wr (· < w.heap.size) (.slice ab a.length cb) b) := hideIt (by rw [HL.out]; exact RowIn.kept (by have := HB.out; rw [HL.out] at this; exact this) (Kept.of_below HBW.out (fun _ h _ => h)))
        obtain ⟨b1, off1, rfl, _, c0, c1, c2⟩ := EntsIn.at HA2.out hx
        obtain ⟨b2, off2, rfl, _, d0, d1, d2⟩ := EntsIn.at HB2.out hy
        have HTT : Hid (∀ e, x = y → e = k + 1 → a.take e = b.take e) := hideIt (fun e h1 h2 => by
          subst h1 h2
          obtain ⟨hx1, hx2⟩ := List.getElem?_eq_some_iff.1 hx
          obtain ⟨hy1, hy2⟩ := List.getElem?_eq_some_iff.1 hy
          rw [List.take_succ_eq_append_getElem hx1, List.take_succ_eq_append_getElem hy1, HT.out, hx2, hy2])
        have HNN : Hid (x ≠ y → a ≠ b) := hideIt (fun h1 h2 => by subst h2; rw [hx] at hy; cases hy; exact h1 rfl)
        have hneq := fun w => neq_ent x y w
        clear hx hy
        by_cases hxy : x = y
        · rw [show decide (x = y) = true from decide_eq_true hxy] at hneq
          have HXY := hideIt hxy
          clear hxy
          go_wp2_with fail
          go_quiet (fail)
          have HB3 := hideIt (HBW.out.trans ((below_drewN wr nq).mono HBW.out.size))
          go_wp2
          exact ⟨⟨k + 1, by omega, by go_num, HTT.out (k + 1) HXY.out rfl, HB3.out⟩, by simp [intOf]; omega⟩
        · rw [show decide (x = y) = false from decide_eq_false hxy] at hneq
          have HXY : Hid (decide (a = b) = false) := hideIt (decide_eq_false (HNN.out hxy))
          clear hxy
          go_wp2_with fail
          go_quiet (fail)
          have HB3 := hideIt (HBW.out.trans ((below_drewN wr nq).mono HBW.out.size))
          go_wp2
          go_ret
          exact ⟨by rw [HXY.out]; rfl, HB3.out⟩
      · have HXY : Hid (decide (a = b) = true) := hideIt (decide_eq_true (by
          have h1 := HT.out
          rw [show k = a.length by omega, List.take_length] at h1
          rw [HL.out, List.take_length] at h1
          exact h1))
        go_wp2
        go_ret
        exact ⟨by rw [HXY.out]; rfl, HBW.out⟩
  · have HXY : Hid (decide (a = b) = false) := hideIt (decide_eq_false (fun h => hne (by rw [h])))
    have hnn : ((a.length : Int) == (b.length : Int)) = false := by simp only [beq_eq_false_iff_ne, ne_eq]; omega
    clear hne
    go_enter Tryz.func16, Tryz.ntmps16
    go_wp2
    go_ret
    exact ⟨by rw [HXY.out]; rfl, Below.refl _ _⟩
end Go.Proofs.YtkfoolenjegccaaGreatDoor
