/-
  What is proved here: a store's iterator over a range; over this program.
-/
import Derived.RangeFuncNested
import Derived.RangeFuncBound
import Derived.RangeFuncCalls
import Derived.RangeFuncLeaves
import Derived.Shelf.Abstract
import Derived.Shelf.RegionOpen
import Derived.WalkKit
import Derived.OwnWalkIn
import Derived.TacticsInMore
import Derived.LoopNIn
import Derived.LoopIn
import Derived.Test.YtohlepbfjgehgaaGreatDoorEE
namespace Go.Proofs.YtohlepbfjgehgaaGreatDoor
open Go.RowKit Go.Extern.Stop Go.Stop Go.Extern

/-- is a key below the range's end? -/
def upB (tk : List UInt8) (e : Ent) : Bool := tk == [] || Op.bytesLess e.1 tk
/-- is an entry's key in the range? -/
def inR (fk tk : List UInt8) (e : Ent) : Bool := !(Op.bytesLess e.1 fk) && upB tk e
theorem Sto.keep {w w' : World} {p n : Nat} {O : Nat → Prop} {l : List Ent} (h : Sto w p O l) (hb : Below n w w') (hO : ∀ k, O k → k < n) : Sto w' p O l := by
  obtain ⟨v, h1, h2, h3, h4, h5, h6⟩ := h
  exact ⟨v, (World.cell?_of_block (a := ⟨p, 0, none⟩) (hb.block p (hO p h3))).trans h1, (World.frozen?_of_block (a := ⟨p, 0, none⟩) (hb.block p (hO p h3))).trans h2, h3, fun k hk => Nat.lt_of_lt_of_le (h4 k hk) hb.size, ownsRow_of_block h5 (fun g hg => hb.block g (hO g (h6 g hg).1)), h6⟩
/-- of entries by rising keys those in a range stand from the place of its beginning on, as long as they are below its end -/
theorem range_run {l : List Ent} {fk tk : List UInt8} {a k : Nat} (hr : Rising l) (hp : PlaceIs l fk a) (hup : ∀ j e, j < k → l[a + j]? = some e → upB tk e = true) (hend : k = l.length - a ∨ ∃ e, l[a + k]? = some e ∧ upB tk e = false) :
    (l.drop a).take k = l.filter (inR fk tk) := by
  have h1 : (l.take a).filter (inR fk tk) = [] := by
    rw [List.filter_eq_nil_iff]
    intro e he
    obtain ⟨i, hi⟩ := List.getElem?_of_mem he
    have hia : i < a := by have := (List.getElem?_eq_some_iff.1 hi).1; rw [List.length_take] at this; omega
    rw [List.getElem?_take_of_lt hia] at hi
    have := hp.2.1 i e hia hi
    unfold inR
    rw [show Op.bytesLess e.1 fk = true from this]
    simp
  have h2 : ((l.drop a).take k).filter (inR fk tk) = (l.drop a).take k := by
    rw [List.filter_eq_self]
    intro e he
    obtain ⟨i, hi⟩ := List.getElem?_of_mem he
    have hik : i < k := by have := (List.getElem?_eq_some_iff.1 hi).1; rw [List.length_take] at this; omega
    rw [List.getElem?_take_of_lt hik, List.getElem?_drop] at hi
    have h3 := hp.2.2 (a + i) e (by omega) hi
    unfold inR
    rw [show Op.bytesLess e.1 fk = false by simpa [kLt] using h3, hup i e hik hi]
    rfl
  have h3 : ((l.drop a).drop k).filter (inR fk tk) = [] := by
    rw [List.filter_eq_nil_iff]
    intro e he
    obtain ⟨i, hi⟩ := List.getElem?_of_mem he
    rw [List.getElem?_drop, List.getElem?_drop] at hi
    have hil := (List.getElem?_eq_some_iff.1 hi).1
    rcases hend with hend | ⟨e0, he0, hu⟩
    · omega
    · have hu2 : upB tk e = false := by
        by_cases hi0 : i = 0
        · subst hi0
          rw [Nat.add_zero, he0] at hi; cases hi; exact hu
        · unfold upB at hu ⊢
          rw [Bool.or_eq_false_iff] at hu ⊢
          refine ⟨hu.1, ?_⟩
          have h4 := hr (a + k) (a + (k + i)) e0 e (by omega) he0 hi
          cases h5 : Op.bytesLess e.1 tk with
          | false => rfl
          | true =>
            have h6 : Op.bytesLess e0.1 tk = true := kLt_trans h4 h5
            rw [h6] at hu; cases hu.2
      unfold inR
      rw [hu2]; simp
  have e1 : l = l.take a ++ ((l.drop a).take k ++ (l.drop a).drop k) := by rw [List.take_append_drop, List.take_append_drop]
  conv => rhs; rw [e1]
  rw [List.filter_append, List.filter_append, h1, h2, h3]
  simp
/-- what lies in blocks of A is as it was -/
def KpA (A : Nat → Prop) (W W' : World) : Prop := W.heap.size ≤ W'.heap.size ∧ ∀ k, A k → k < W.heap.size → W'.heap[k]? = W.heap[k]?
theorem KpA.refl (A : Nat → Prop) (W : World) : KpA A W W := ⟨Nat.le_refl _, fun _ _ _ => rfl⟩
theorem KpA.trans {A : Nat → Prop} {X Y Z : World} (h : KpA A X Y) (k : KpA A Y Z) : KpA A X Z := ⟨Nat.le_trans h.1 k.1, fun j hj hl => (k.2 j hj (Nat.lt_of_lt_of_le hl h.1)).trans (h.2 j hj hl)⟩
theorem KpA.of_below {A : Nat → Prop} {X Y : World} (h : Below X.heap.size X Y) : KpA A X Y := ⟨h.size, fun j _ hl => h.block j hl⟩
theorem KpA.of_grown {A : Nat → Prop} {X Y : World} {r : Option Nat} (h : X.grownBy Y r) (hr : ∀ g, r = some g → ¬ A g) : KpA A X Y := ⟨h.size, fun j hj hl => h.block j hl (fun e => hr j e.symm hj)⟩
theorem KpA.cell {A : Nat → Prop} {X Y : World} (h : KpA A X Y) {a : Addr} {v : Value} (hA : A a.block) (hc : X.cell? a = some v) : Y.cell? a = some v := (World.cell?_of_block (h.2 a.block hA (lt_of_cell hc))).trans hc
theorem own_two {w : World} {B e size n : Nat} {v : Value} {xs : List Value} (h : w.ownsRow B e size v n xs) : (v = .slice none 0 0 ∧ n = 0) ∨ ∃ g cap, v = .slice (some ⟨g, 0, none⟩) n cap ∧ n ≤ cap ∧ v.ownBlock = some g := by
  obtain ⟨_, h2⟩ := h
  rcases h2 with h2 | ⟨g, cap, cur, rfl, _, _, h5, _⟩
  · exact Or.inl h2
  · exact Or.inr ⟨g, cap, rfl, h5, rfl⟩
theorem stwithin_any (w : World) (p : Nat) (fk tk : List UInt8) :
    Calls Tryz.prog 64 #[.pointer (some ⟨p, 0, none⟩), .string ⟨fk.toArray⟩, .string ⟨tk.toArray⟩] w fun e w' => e = .returned (.func (.func 99) #[] #[.pointer (some ⟨w.heap.size, 0, none⟩), .pointer (some ⟨w.heap.size + 1, 0, none⟩), .pointer (some ⟨w.heap.size + 2, 0, none⟩)]) ∧
      w' = ((w.alloc (.cells #[.pointer (some ⟨p, 0, none⟩)] 39)).alloc (.cells #[.string ⟨fk.toArray⟩] 9)).alloc (.cells #[.string ⟨tk.toArray⟩] 9) := by
  go_enter Tryz.func64, Tryz.ntmps64
  go_wp2
  go_ret
  exact ⟨rfl, rfl⟩

set_option maxRecDepth 100000 in
set_option maxHeartbeats 4000000 in
theorem swithinA_in (n : Nat) (hn : 1 ≤ n) (l0 b1 p : Nat) (A O : Nat → Prop) (l : List Ent) (fk tk : List UInt8) (hr : Rising l) (hl : l.length ≤ 1000) (J Jx : List Ent → World → Prop) (W : World) (hJ : AbidesFrom W.heap.size J)
    (hY : ∀ pre x W1, J pre W1 → pre.length < l.length → YieldAt Fence.wide (n - 1) Tryz.prog l0 #[entV x] W1 fun e W' => (e = .returned (.bool true) ∧ J (pre ++ [x]) W' ∧ KpA A W1 W') ∨ (e = .returned (.bool false) ∧ Jx (pre ++ [x]) W'))
    (hc1 : W.cell? ⟨b1, 0, none⟩ = some (.pointer (some ⟨p, 0, none⟩))) (hc2 : W.cell? ⟨b1 + 1, 0, none⟩ = some (.string ⟨fk.toArray⟩)) (hc3 : W.cell? ⟨b1 + 2, 0, none⟩ = some (.string ⟨tk.toArray⟩)) (hb : A (b1 + 2)) (hS : Sto W p O l) (hO : ∀ k, O k → A k) (h0 : J [] W) :
    CallsIn Fence.wide n Tryz.prog 99 #[.func (.yield l0) #[] #[], .pointer (some ⟨b1, 0, none⟩), .pointer (some ⟨b1 + 1, 0, none⟩), .pointer (some ⟨b1 + 2, 0, none⟩)] W fun e W' => (∃ v, e = .returned v) ∧
      ((∃ ys, ys = l.filter (inR fk tk) ∧ J ys W') ∨ (∃ pre, True ∧ Jx pre W')) := by
  have HF := hideIt (stfind_any W p O l fk hS hr (by omega))
  have HS := hideIt hS
  have HR := hideIt hr
  clear hS hr
  refine callsIn_of_wp Tryz.func99 rfl trivial ?_ rfl
  simp only [Tryz.ntmps99, List.size_toArray, List.length_cons, List.length_nil, Nat.reduceAdd, Nat.reduceSub, Array.replicate_succ, Array.replicate_zero, List.push_toArray, List.append_toArray, List.nil_append, List.cons_append]
  gi_wp2_with fail
  refine ⟨trivial, (callsIn_wide.2 HF.out).mono ?_⟩
  rintro e w1 ⟨a, rfl, hp, hb1⟩
  have d1 := (hb1.cell (lt_of_cell hc1)).trans hc1
  have d2 := (hb1.cell (lt_of_cell hc2)).trans hc2
  have d3 := (hb1.cell (lt_of_cell hc3)).trans hc3
  have HJ1 : Hid (J [] w1) := hideIt (hJ [] W w1 none h0 (grown_below hb1 none) (fun _ h => nomatch h))
  have HS1 := hideIt (HS.out.next hb1)
  have HB1 := hideIt hb1
  have HP := hideIt hp
  have hal := hp.1
  obtain ⟨v, e0, _, _, _, ho, hob⟩ := HS1.out
  have HE := hideIt (And.intro (own_in ho) hob)
  have hfm := own_two ho
  clear ho hob hp hb1 hc1 hc2 hc3 h0 HF
  rcases hfm with ⟨rfl, hl0⟩ | ⟨g, cap, rfl, hcap, _⟩
  case inl =>
    obtain rfl : a = 0 := by omega
    gi_wp2_with fail
    gi_loopw [22] (fun i wr => i = .int .i64 0 ∧ wr = w1) (fun i _ => 0)
    case atStart => exact ⟨rfl, rfl⟩
    case round =>
      obtain ⟨rfl, rfl⟩ := hrel
      gi_wp2
      go_end0
      exact ⟨⟨_, rfl⟩, .inl ⟨_, range_run (k := 0) HR.out HP.out (fun j e h => by omega) (Or.inl (by omega)), HJ1.out⟩⟩
  case inr =>
  have q1 : (a : Int) ≤ (l.length : Int) := by omega
  have q2 : (a : Int) ≤ (cap : Int) := by omega
  obtain ⟨m, hm⟩ : ∃ m, m = l.length - a := ⟨_, rfl⟩
  have HM := hideIt hm
  by_cases hcf : cap = a
  case pos =>
    have hcf2 := hcf.symm
    clear hcf
    subst hcf2
    gi_wp2_with fail
    gi_loopw [22] (fun i wr => i = .int .i64 0 ∧ wr = w1) (fun i _ => 0)
    case atStart => exact ⟨rfl, rfl⟩
    case round =>
      obtain ⟨rfl, rfl⟩ := hrel
      have hz : l.length - a = 0 := by omega
      gi_wp2
      go_end0
      exact ⟨⟨_, rfl⟩, .inl ⟨_, range_run (k := 0) HR.out HP.out (fun j e h => by omega) (Or.inl (by omega)), HJ1.out⟩⟩
  case neg =>
    gi_wp2_with fail
    rw [← hm]
    clear hm e0
    gi_loopw [22] (fun i wr => ∃ k : Nat, k ≤ m ∧ i = .int .i64 k ∧ Hid (∀ j e, j < k → l[a + j]? = some e → upB tk e = true) ∧ Hid (J ((l.drop a).take k) wr) ∧ Hid (KpA A w1 wr)) (fun i _ => m - (intOf i).toNat)
    case atStart => exact ⟨0, Nat.zero_le _, rfl, hideIt (fun j e h => by omega), by simpa using HJ1, KpA.refl _ _⟩
    case round =>
      obtain ⟨k, hk, rfl, HU, HJ, HB⟩ := hrel
      by_cases hlt : k < m
      · have hakl : a + k < l.length := by have := HM.out; omega
        obtain ⟨x, hx⟩ : ∃ x, l[a + k]? = some x := ⟨l[a + k], List.getElem?_eq_getElem hakl⟩
        obtain ⟨b, off, haa, hbO, c0, c1, c2⟩ := EntsIn.at HE.out.1 hx
        cases haa
        have hbn : A g := hO g (HE.out.2 g hbO).1
        rw [Nat.add_mul, ← Nat.add_assoc] at c0 c1 c2
        simp only [Nat.zero_add] at c0 c1 c2
        have r0 := HB.out.cell (a := ⟨g, a * 3 + k * 3, none⟩) hbn c0
        have r1 := HB.out.cell (a := ⟨g, a * 3 + k * 3 + 1, none⟩) hbn c1
        have r2 := HB.out.cell (a := ⟨g, a * 3 + k * 3 + 2, none⟩) hbn c2
        have g3 := HB.out.cell (a := ⟨b1 + 2, 0, none⟩) hb d3
        obtain ⟨Wr, hWr, hrb, hrs, t0, t1, t2⟩ := room3 wr 42 (.string ⟨x.1.toArray⟩) (.string ⟨x.2.1.toArray⟩) (.int .i64 x.2.2)
        have s3 := (hrb.cell (lt_of_cell g3)).trans g3
        have HBr := hideIt (HB.out.trans (KpA.of_below hrb))
        have HX := hideIt hx
        have HJr : Hid (J ((l.drop a).take k) Wr) := hideIt (hJ _ wr Wr none HJ.out (grown_below hrb none) (fun _ h => nomatch h))
        clear hx c0 c1 c2 hrb hrs g3
        subst hWr
        cases q1 : tk == [] with
        | true =>
          have HUX : Hid (upB tk x = true) := hideIt (by unfold upB; rw [q1]; rfl)
          have HU2 : Hid (∀ j e, j < k + 1 → l[a + j]? = some e → upB tk e = true) := hideIt (fun j e hj he => by
            by_cases hjk : j = k
            · subst hjk; rw [HX.out] at he; cases he; exact HUX.out
            · exact HU.out j e (by omega) he)
          have htk : (l.drop a).take k ++ [x] = (l.drop a).take (k + 1) := by rw [List.take_add_one, List.getElem?_drop, HX.out]; rfl
          obtain ⟨fn, tmps, assign, body, hy, hR⟩ := hY _ x _ HJr.out (by rw [List.length_take, List.length_drop]; omega)
          rw [htk] at hR
          have HRR := hideIt hR
          clear hR htk hY
          dsimp only [entV] at hy
          gi_wp2_with fail
          refine HRR.out.mono ?_
          rintro e W3 (⟨rfl, hJ3, hk3⟩ | ⟨rfl, hJx3⟩)
          · have HJ3 := hideIt hJ3
            have HB3 := hideIt (HBr.out.trans hk3)
            clear hJ3 hk3
            gi_wp2
            exact ⟨⟨k + 1, by omega, by go_num, HU2, HJ3, HB3⟩, by simp [intOf]; omega⟩
          · have HJ3 := hideIt hJx3
            clear hJx3
            gi_wp2
            refine bodyPost_ret (results_none rfl _ _ _) rfl ?_
            exact ⟨⟨_, rfl⟩, .inr ⟨_, trivial, HJ3.out⟩⟩
        | false =>
          cases q2 : Op.bytesLess x.1 tk with
          | true =>
            have HUX : Hid (upB tk x = true) := hideIt (by unfold upB; rw [q1, q2]; rfl)
            have HU2 : Hid (∀ j e, j < k + 1 → l[a + j]? = some e → upB tk e = true) := hideIt (fun j e hj he => by
              by_cases hjk : j = k
              · subst hjk; rw [HX.out] at he; cases he; exact HUX.out
              · exact HU.out j e (by omega) he)
            have htk : (l.drop a).take k ++ [x] = (l.drop a).take (k + 1) := by rw [List.take_add_one, List.getElem?_drop, HX.out]; rfl
            obtain ⟨fn, tmps, assign, body, hy, hR⟩ := hY _ x _ HJr.out (by rw [List.length_take, List.length_drop]; omega)
            rw [htk] at hR
            have HRR := hideIt hR
            clear hR htk hY
            dsimp only [entV] at hy
            gi_wp2_with fail
            refine HRR.out.mono ?_
            rintro e W3 (⟨rfl, hJ3, hk3⟩ | ⟨rfl, hJx3⟩)
            · have HJ3 := hideIt hJ3
              have HB3 := hideIt (HBr.out.trans hk3)
              clear hJ3 hk3
              gi_wp2
              exact ⟨⟨k + 1, by omega, by go_num, HU2, HJ3, HB3⟩, by simp [intOf]; omega⟩
            · have HJ3 := hideIt hJx3
              clear hJx3
              gi_wp2
              refine bodyPost_ret (results_none rfl _ _ _) rfl ?_
              exact ⟨⟨_, rfl⟩, .inr ⟨_, trivial, HJ3.out⟩⟩
          | false =>
            have HUX : Hid (upB tk x = false) := hideIt (by unfold upB; rw [q1, q2]; rfl)
            gi_wp2
            refine ⟨fun _ h => (by cases h), ?_⟩
            gi_wp2
            refine bodyPost_ret (results_none rfl _ _ _) rfl ?_
            exact ⟨⟨_, rfl⟩, .inl ⟨_, range_run HR.out HP.out HU.out (Or.inr ⟨x, HX.out, HUX.out⟩), HJr.out⟩⟩
      · obtain rfl : k = m := by omega
        gi_wp2
        go_end0
        exact ⟨⟨_, rfl⟩, .inl ⟨_, range_run HR.out HP.out HU.out (Or.inl HM.out), HJ.out⟩⟩
end Go.Proofs.YtohlepbfjgehgaaGreatDoor
