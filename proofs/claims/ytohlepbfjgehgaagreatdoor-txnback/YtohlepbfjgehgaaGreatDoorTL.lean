/-
  What is proved here: Get of a transaction; over this program.
-/
import Derived.Test.YtohlepbfjgehgaaGreatDoorTK
import Derived.Deep.RegionHeld3
import Derived.Deep.DeepCutAuto
namespace Go.Proofs.YtohlepbfjgehgaaGreatDoor
open Go.RowKit Go.Extern.Stop Go.Stop Go.Extern

/-- a room of four cells that may be written -/
def T4 (w : World) (b : Nat) (x y z u : Value) : Prop :=
  (w.cell? ⟨b, 0, none⟩ = some x ∧ w.cell? ⟨b, 1, none⟩ = some y ∧ w.cell? ⟨b, 2, none⟩ = some z ∧ w.cell? ⟨b, 3, none⟩ = some u) ∧ (∀ j, w.frozen? ⟨b, j, none⟩ = false)
theorem T4.lt {w : World} {b : Nat} {x y z u : Value} (h : T4 w b x y z u) : b < w.heap.size := lt_of_cell (a := ⟨b, 0, none⟩) h.1.1
theorem T4.keep {w w' : World} {b : Nat} {x y z u : Value} (h : T4 w b x y z u) (hb : w'.heap[b]? = w.heap[b]?) : T4 w' b x y z u :=
  ⟨⟨(World.cell?_of_block (a := ⟨b, 0, none⟩) hb).trans h.1.1, (World.cell?_of_block (a := ⟨b, 1, none⟩) hb).trans h.1.2.1, (World.cell?_of_block (a := ⟨b, 2, none⟩) hb).trans h.1.2.2.1, (World.cell?_of_block (a := ⟨b, 3, none⟩) hb).trans h.1.2.2.2⟩, fun j => (World.frozen?_of_block (a := ⟨b, j, none⟩) hb).trans (h.2 j)⟩
theorem T4.next {w w' : World} {b : Nat} {x y z u : Value} (h : T4 w b x y z u) (hb : Below w.heap.size w w') : T4 w' b x y z u := h.keep (hb.block b h.lt)
theorem T4.grown {w w' : World} {b p : Nat} {x y z u : Value} (h : T4 w b x y z u) (hg : w.grownBy w' (some p)) (hne : b ≠ p) : T4 w' b x y z u :=
  h.keep (hg.block b h.lt (fun e => hne (by first | exact Option.some.inj e | exact (Option.some.inj e).symm)))
theorem T4.new (w : World) (t : TypeId) (x y z u : Value) : T4 (w.alloc (.cells #[x, y, z, u] t)) w.heap.size x y z u :=
  ⟨⟨by rw [World.cell?_alloc_at _ _ _ _ rfl]; rfl, by rw [World.cell?_alloc_at _ _ _ _ rfl]; rfl, by rw [World.cell?_alloc_at _ _ _ _ rfl]; rfl, by rw [World.cell?_alloc_at _ _ _ _ rfl]; rfl⟩, fun _ => World.frozen?_alloc_at _ _ _ _ rfl⟩
theorem T4.set0 {w : World} {b : Nat} {x y z u : Value} (h : T4 w b x y z u) (X : Value) : T4 (w.setCell ⟨b, 0, none⟩ X) b X y z u :=
  ⟨⟨World.cell?_setCell_same _ _ _ h.1.1, by rw [World.cell?_setCell_other _ _ _ _ (by simp)]; exact h.1.2.1, by rw [World.cell?_setCell_other _ _ _ _ (by simp)]; exact h.1.2.2.1, by rw [World.cell?_setCell_other _ _ _ _ (by simp)]; exact h.1.2.2.2⟩, fun j => by rw [World.frozen?_setCell]; exact h.2 j⟩
theorem T4.set1 {w : World} {b : Nat} {x y z u : Value} (h : T4 w b x y z u) (X : Value) : T4 (w.setCell ⟨b, 1, none⟩ X) b x X z u :=
  ⟨⟨by rw [World.cell?_setCell_other _ _ _ _ (by simp)]; exact h.1.1, World.cell?_setCell_same _ _ _ h.1.2.1, by rw [World.cell?_setCell_other _ _ _ _ (by simp)]; exact h.1.2.2.1, by rw [World.cell?_setCell_other _ _ _ _ (by simp)]; exact h.1.2.2.2⟩, fun j => by rw [World.frozen?_setCell]; exact h.2 j⟩
theorem T4.set2 {w : World} {b : Nat} {x y z u : Value} (h : T4 w b x y z u) (X : Value) : T4 (w.setCell ⟨b, 2, none⟩ X) b x y X u :=
  ⟨⟨by rw [World.cell?_setCell_other _ _ _ _ (by simp)]; exact h.1.1, by rw [World.cell?_setCell_other _ _ _ _ (by simp)]; exact h.1.2.1, World.cell?_setCell_same _ _ _ h.1.2.2.1, by rw [World.cell?_setCell_other _ _ _ _ (by simp)]; exact h.1.2.2.2⟩, fun j => by rw [World.frozen?_setCell]; exact h.2 j⟩
theorem T4.set3 {w : World} {b : Nat} {x y z u : Value} (h : T4 w b x y z u) (X : Value) : T4 (w.setCell ⟨b, 3, none⟩ X) b x y z X :=
  ⟨⟨by rw [World.cell?_setCell_other _ _ _ _ (by simp)]; exact h.1.1, by rw [World.cell?_setCell_other _ _ _ _ (by simp)]; exact h.1.2.1, by rw [World.cell?_setCell_other _ _ _ _ (by simp)]; exact h.1.2.2.1, World.cell?_setCell_same _ _ _ h.1.2.2.2⟩, fun j => by rw [World.frozen?_setCell]; exact h.2 j⟩
theorem T4.put {w : World} {b : Nat} {x y z u : Value} (h : T4 w b x y z u) (X Y Z U : Value) :
    T4 ((((w.setCell ⟨b, 0, none⟩ X).setCell ⟨b, 1, none⟩ Y).setCell ⟨b, 2, none⟩ Z).setCell ⟨b, 3, none⟩ U) b X Y Z U ∧ w.grownBy ((((w.setCell ⟨b, 0, none⟩ X).setCell ⟨b, 1, none⟩ Y).setCell ⟨b, 2, none⟩ Z).setCell ⟨b, 3, none⟩ U) (some b) :=
  ⟨(((h.set0 X).set1 Y).set2 Z).set3 U, grown_set (grown_set (grown_set (grown_set (grown_refl _ _) _ _) _ _) _ _) _ _⟩
theorem grown_own {w w' : World} {B b : Nat} (h : w.grownBy w' (some b)) (hB : B ≤ b) (hw : B ≤ w.heap.size) : Below B w w' := Below.grown (Below.refl _ _) h hw (fun k hk => by cases hk; exact hB)
theorem trst_room {w w' : World} {p b : Nat} {Z : Nat → Prop} {bs : List UInt8} {st : RS} (h : RSt w p (fun k => Z k ∧ k ≠ b) bs st) (hg : w.grownBy w' (some b)) (hb : b ≠ p) : RSt w' p (fun k => Z k ∧ k ≠ b) bs st :=
  h.kept (hg.block p h.lt (fun e => hb (by first | exact Option.some.inj e | exact (Option.some.inj e).symm))) (fun _ hk hl => hg.block _ hl (fun e => hk.2 (by first | exact Option.some.inj e | exact (Option.some.inj e).symm)))

def cliN (n : Int) : Int := if n < 0 then -1 else if 16 ≤ n then -1 else n
theorem txclient_any (n : Int) (w : World) : Calls Tryz.prog 40 #[.int .i64 n] w fun e w' => e = .returned (.int .i64 (cliN n)) ∧ w' = w := by
  by_cases h1 : n < 0
  · have e : cliN n = -1 := by unfold cliN; rw [if_pos h1]
    rw [e]
    go_enter Tryz.func40, Tryz.ntmps40
    go_wp2
    go_ret
    exact ⟨rfl, rfl⟩
  by_cases h2 : 16 ≤ n
  · have e : cliN n = -1 := by unfold cliN; rw [if_neg h1, if_pos h2]
    rw [e]
    go_enter Tryz.func40, Tryz.ntmps40
    go_wp2
    go_ret
    exact ⟨rfl, rfl⟩
  · have e : cliN n = n := by unfold cliN; rw [if_neg h1, if_neg h2]
    have hwr : IntKind.i64.wrap n = n := by simp [IntKind.wrap, IntKind.bits, IntKind.signed]; omega
    rw [e]
    go_enter Tryz.func40, Tryz.ntmps40
    go_wp2
    go_ret
    exact ⟨rfl, rfl⟩

/-- what Get reads -/
def gC (bs : List UInt8) : Int × RS := stepR (0 : Int) sNum rdNum bs (.ok 0)
def gN (bs : List UInt8) : Int × RS := stepR (0 : Int) sNum rdNum bs (gC bs).2
def gRs (bs : List UInt8) : List Rd × RS := getR bs (gN bs).2
def gWs (bs : List UInt8) : List Wr × RS := getW bs (gRs bs).2
def gTx (bs : List UInt8) : Prop := endOf bs (gWs bs).2 = none ∧ rightB (cliN (gC bs).1) (gN bs).1 (gRs bs).1 (gWs bs).1 = true

def GetCut (X : World) (p q : Nat) (bs : List UInt8) (cl y2 : Int) (st2 : RS) (s5 : Value) (wx : World) : Prop :=
  ∃ b5, s5 = .pointer (some ⟨b5, 0, none⟩) ∧ T4 wx b5 (.int .i64 cl) (.int .i64 y2) (.slice none 0 0) (.slice none 0 0) ∧ RSt wx p (fun k => k ≠ p ∧ k ≠ b5) bs st2 ∧ (b5 ≠ p ∧ b5 ≠ q ∧ X.heap.size ≤ b5) ∧ X.grownBy wx (some p)
theorem getCut_room {X w3 w4 : World} {p q b5 : Nat} {bs : List UInt8} {cl y2 : Int} {st2 : RS} (ht : T4 w4 b5 (.int .i64 cl) (.int .i64 y2) (.slice none 0 0) (.slice none 0 0)) (hg : w3.grownBy w4 (some b5)) (hr : RSt w3 p (fun k => k ≠ p ∧ k ≠ b5) bs st2) (hne : b5 ≠ p ∧ b5 ≠ q ∧ X.heap.size ≤ b5) (hx : X.grownBy w3 (some p)) :
    GetCut X p q bs cl y2 st2 (.pointer (some ⟨b5, 0, none⟩)) w4 :=
  ⟨b5, rfl, ht, trst_room hr hg hne.1, hne, grown_then hx (grown_own hg hne.2.2 hx.size)⟩

/-- what Get answers -/
def GetPostT (w : World) (bs : List UInt8) (e : Ending) (w' : World) : Prop :=
  ∃ x er, e = .returned (.tuple #[x, er]) ∧ Below w.heap.size w w' ∧ ((gTx bs ∧ er = .nilIface ∧ ∃ rv wv, x = .agg #[.int .i64 (cliN (gC bs).1), .int .i64 (gN bs).1, rv, wv] ∧ RdsIn w' (w.heap.size ≤ ·) rv (gRs bs).1 ∧ WrsIn w' (w.heap.size ≤ ·) wv (gWs bs).1) ∨ (¬ gTx bs ∧ x = .agg #[.int .i64 0, .int .i64 0, .slice none 0 0, .slice none 0 0] ∧ ∃ t y, er = .iface t y))

set_option maxRecDepth 100000 in
set_option maxHeartbeats 16000000 in
theorem txGet_any (w : World) (A : Nat → Prop) (v : Value) (bs : List UInt8) (hv : BytesIn w A v bs) (hl : bs.length ≤ 1000000000) :
    Calls Tryz.prog 12 #[v] w (GetPostT w bs) := by
  have HV := hideIt hv
  have HL : Hid (bs.length ≤ 1000000000000) := hideIt (by omega)
  obtain ⟨a, cap, rfl, _⟩ := hv.form
  have hT0 := T4.new w 25 (.int .i64 0) (.int .i64 0) (.slice none 0 0) (.slice none 0 0)
  obtain ⟨W, hW, hwb, hws, _⟩ := room4t w 25 (.int .i64 0) (.int .i64 0) (.slice none 0 0) (.slice none 0 0)
  rw [← hW] at hT0
  have HT0 := hideIt hT0
  have HWB := hideIt hwb
  have HBI := hideIt (RowIn.kept HV.out (Kept.of_all hwb))
  clear hv hwb hT0 HV
  go_enter Tryz.func12, Tryz.ntmps12
  go_wp2_with fail
  rw [← hW]
  clear hW
  refine (new_any A _ bs W HBI.out (by have := HL.out; omega)).mono ?_
  rintro e w1 ⟨p, rfl, hp, hp1, hr1, hb1⟩
  have HB1 := hideIt (HWB.out.trans (hb1.mono HWB.out.size))
  have HT1 := hideIt (HT0.out.next hb1)
  obtain ⟨X, hX, hxb, hxs, hq⟩ : ∃ X, X = w1.alloc (.cells #[.pointer (some ⟨p, 0, none⟩)] 87) ∧ Below w1.heap.size w1 X ∧ X.heap.size = w1.heap.size + 1 ∧ X.cell? ⟨w1.heap.size, 0, none⟩ = some (.pointer (some ⟨p, 0, none⟩)) :=
    ⟨_, rfl, (Below.refl _ _).alloc (Nat.le_refl _) _, by simp, by rw [World.cell?_alloc_at _ _ _ _ rfl]; rfl⟩
  have HRX : Hid (RSt X p (fun k => k ≠ p) bs (.ok 0)) := hideIt (RSt.next (st := .ok 0) hr1 hxb)
  have HTX := hideIt (HT1.out.next hxb)
  have HBX := hideIt (HB1.out.trans (hxb.mono HB1.out.size))
  obtain ⟨q, hqq⟩ : ∃ q, q = w1.heap.size := ⟨_, rfl⟩
  have hbp : w.heap.size < p := by omega
  have hqp : q ≠ p := by omega
  have hqs : q < X.heap.size := by omega
  have hps : p < X.heap.size := by omega
  obtain ⟨y1, hy1⟩ : ∃ y, y = (gC bs).1 := ⟨_, rfl⟩
  obtain ⟨st1, hst1⟩ : ∃ s, s = (gC bs).2 := ⟨_, rfl⟩
  obtain ⟨y2, hy2⟩ : ∃ y, y = (stepR (0 : Int) sNum rdNum bs st1).1 := ⟨_, rfl⟩
  obtain ⟨st2, hst2⟩ : ∃ s, s = (stepR (0 : Int) sNum rdNum bs st1).2 := ⟨_, rfl⟩
  obtain ⟨cl, hcl⟩ : ∃ c, c = cliN y1 := ⟨_, rfl⟩
  have HCL : Hid (∀ w, Calls Tryz.prog 40 #[.int .i64 y1] w fun e w' => e = .returned (.int .i64 cl) ∧ w' = w) := hideIt (by rw [hcl]; exact txclient_any y1)
  have HYS : Hid (y1 = (gC bs).1 ∧ st1 = (gC bs).2 ∧ y2 = (stepR (0 : Int) sNum rdNum bs st1).1 ∧ st2 = (stepR (0 : Int) sNum rdNum bs st1).2 ∧ cl = cliN y1) := hideIt ⟨hy1, hst1, hy2, hst2, hcl⟩
  clear hy1 hst1 hy2 hst2 hcl hr1 hb1 hp hp1 hws HT0 HT1 hxb
  go_upto_region 2 with fail
  rw [← hX]
  rw [← hqq] at hq ⊢
  clear hX hqq hxs
  have HQX := hideIt hq
  have hTA := T4.new X 25 (.int .i64 0) (.int .i64 0) (.slice none 0 0) (.slice none 0 0)
  have hba : Below X.heap.size X (X.alloc (.cells #[.int .i64 0, .int .i64 0, .slice none 0 0, .slice none 0 0] 25)) := (Below.refl _ _).alloc (Nat.le_refl _) _
  have hbad := hba.drew
  have HTA := hideIt (hTA.next (below_drew _))
  have HSA : Hid (RSt (X.alloc (.cells #[.int .i64 0, .int .i64 0, .slice none 0 0, .slice none 0 0] 25)).drew p (fun k => k ≠ p ∧ k ≠ X.heap.size) bs (.ok 0)) := hideIt ((trst_mono HRX.out (fun k a hk => ⟨a, by omega⟩)).next hbad)
  have HQA := hideIt ((hbad.cell (lt_of_cell hq)).trans hq)
  have HBA := hideIt hbad
  have HRD := hideIt (HRX.out.next (below_drew X))
  clear hTA hba hbad
  go_cut [5] (fun s5 wx => GetCut X p q bs cl y2 st2 s5 wx)
  case first =>
    go_region_held3 (fun w' => w'.cell? ⟨q, 0, none⟩ = some (.pointer (some ⟨p, 0, none⟩))) (first | exact hq | exact HQX.out | exact HQA.out | exact HQ2.out | exact HQ3.out | (have hk := HQ3.out; simp [hk, World.cell?_alloc_some, World.cell?_setCell_far, hnq]; done) | go_keep) (first
      | (go_at_call 41
         have hh := H1A.out
         refine (rNum_any p _ bs st1 _ hh (fun h => h.1 rfl) (fun k hk => by have := HG2.out.size; have := HL2.out; exact ⟨by omega, by omega⟩) HL.out).mono ?_
         rintro e w3 ⟨v3, rfl, hv3, hs3, hg3⟩
         obtain rfl : v3 = .int .i64 y2 := by rw [HYS.out.2.2.1]; exact hv3
         have HS3 : Hid (RSt w3 p (fun k => k ≠ p ∧ k ≠ X.heap.size) bs st2) := hideIt (by rw [HYS.out.2.2.2.1]; exact hs3)
         have HT3 := hideIt (HT2.out.grown hg3 (by omega))
         have z0 := HT3.out.1.1
         have z1 := HT3.out.1.2.1
         have z2 := HT3.out.1.2.2.1
         have z3 := HT3.out.1.2.2.2
         have f0 := HT3.out.2 0
         have f1 := HT3.out.2 1
         have f2 := HT3.out.2 2
         have f3 := HT3.out.2 3
         have HQ3 := hideIt (tgrown_cell hg3 HQ2.out hqp)
         have hnq : X.heap.size ≠ q := by omega
         have HMT := hideIt (fun w4 t g => getCut_room (X := X) (w4 := w4) (q := q) (cl := cl) (y2 := y2) t g HS3.out ⟨by omega, by omega, Nat.le_refl _⟩ (HGX2.out hg3))
         have HPU := hideIt (HT3.out.put (.int .i64 cl) (.int .i64 y2) (.slice none 0 0) (.slice none 0 0))
         clear hv3 hs3 hg3)
      | (go_at_call 41
         have hh := H1P.out
         refine (rNum_any p _ bs st1 w2 hh (fun h => h rfl) (fun k hk => by have := HG2.out.size; omega) HL.out).mono ?_
         rintro e w3 ⟨v3, rfl, hv3, hs3, hg3⟩
         obtain rfl : v3 = .int .i64 y2 := by rw [HYS.out.2.2.1]; exact hv3
         have HS3 : Hid (RSt w3 p (fun k => k ≠ p) bs st2) := hideIt (by rw [HYS.out.2.2.2.1]; exact hs3)
         have HQ3 := hideIt (tgrown_cell hg3 HQ2.out hqp)
         have HGX3 := hideIt (grown_trans HG2.out hg3)
         have hnq : w3.heap.size ≠ q := by have := lt_of_cell HQ3.out; exact fun e => by rw [e] at this; exact Nat.lt_irrefl _ this
         clear hv3 hs3 hg3)
      | (go_at_call 41
         have hh := H1P.out
         refine (rNum_any p (fun k => k ≠ p ∧ k ≠ w2.heap.size) bs st1 _ ((trst_mono hh (fun k a hk => ⟨a, Nat.ne_of_lt hk⟩)).next ((Below.refl w2.heap.size w2).alloc (Nat.le_refl _) _)) (fun h => h.1 rfl) (fun k hk => by rw [World.size_alloc] at hk; have := HG2.out.size; exact ⟨by omega, by omega⟩) HL.out).mono ?_
         rintro e w3 ⟨v3, rfl, hv3, hs3, hg3⟩
         obtain rfl : v3 = .int .i64 y2 := by rw [HYS.out.2.2.1]; exact hv3
         have HS3 : Hid (RSt w3 p (fun k => k ≠ p ∧ k ≠ w2.heap.size) bs st2) := hideIt (by rw [HYS.out.2.2.2.1]; exact hs3)
         have hp2 : p < w2.heap.size := Nat.lt_of_lt_of_le hps HG2.out.size
         have HT3 := hideIt ((T4.new w2 25 (.int .i64 0) (.int .i64 0) (.slice none 0 0) (.slice none 0 0)).grown hg3 (by omega))
         have z0 := HT3.out.1.1
         have z1 := HT3.out.1.2.1
         have z2 := HT3.out.1.2.2.1
         have z3 := HT3.out.1.2.2.2
         have f0 := HT3.out.2 0
         have f1 := HT3.out.2 1
         have f2 := HT3.out.2 2
         have f3 := HT3.out.2 3
         have HQ3 := hideIt (tgrown_cell hg3 ((((Below.refl w2.heap.size w2).alloc (Nat.le_refl _) _).cell (lt_of_cell HQ2.out)).trans HQ2.out) hqp)
         have hnq : w2.heap.size ≠ q := by have := lt_of_cell HQ2.out; exact fun e => by rw [e] at this; exact Nat.lt_irrefl _ this
         have HGXB := hideIt (grown_trans (grown_then HG2.out (((Below.refl w2.heap.size w2).alloc (Nat.le_refl _) _).mono HG2.out.size)) hg3)
         have HPU := hideIt (HT3.out.put (.int .i64 cl) (.int .i64 y2) (.slice none 0 0) (.slice none 0 0))
         clear hv3 hs3 hg3)
      | (go_at_call 41
         refine (rNum_any p _ bs (.ok 0) _ HSA.out (fun h => h.1 rfl) (fun k hk => by have := HBA.out.size; have : (X.alloc (.cells #[.int .i64 0, .int .i64 0, .slice none 0 0, .slice none 0 0] 25)).drew.heap.size = X.heap.size + 1 := World.size_alloc _ _; exact ⟨by omega, by omega⟩) HL.out).mono ?_
         rintro e w2 ⟨v2, rfl, hv2, hs2, hg2⟩
         obtain rfl : v2 = .int .i64 y1 := by rw [HYS.out.1]; exact hv2
         have H1A : Hid (RSt w2 p (fun k => k ≠ p ∧ k ≠ X.heap.size) bs st1) := hideIt (by rw [HYS.out.2.1]; exact hs2)
         have HT2 := hideIt (HTA.out.grown hg2 (by omega))
         have HQ2 := hideIt (tgrown_cell hg2 HQA.out hqp)
         have HG2 := hideIt (grown_trans (grown_below HBA.out (some p)) hg2)
         have HL2 : Hid (X.heap.size < w2.heap.size) := hideIt HT2.out.lt
         have HGX2 : Hid (∀ {w3 : World}, w2.grownBy w3 (some p) → X.grownBy w3 (some p)) := hideIt (fun h => grown_trans HG2.out h)
         clear hv2 hs2 hg2)
      | (go_at_call 41
         refine (rNum_any p _ bs (.ok 0) _ HRD.out (fun h => h rfl) (fun k hk => by have : X.drew.heap.size = X.heap.size := rfl; omega) HL.out).mono ?_
         rintro e w2 ⟨v2, rfl, hv2, hs2, hg2⟩
         obtain rfl : v2 = .int .i64 y1 := by rw [HYS.out.1]; exact hv2
         have H1P : Hid (RSt w2 p (fun k => k ≠ p) bs st1) := hideIt (by rw [HYS.out.2.1]; exact hs2)
         have HQ2 := hideIt (tgrown_cell hg2 (show X.drew.cell? ⟨q, 0, none⟩ = _ from HQX.out) hqp)
         have HG2 := hideIt (grown_trans (grown_below (below_drew X) (some p)) hg2)
         clear hv2 hs2 hg2)
      | (go_at_call 40
         refine (HCL.out _).mono ?_
         rintro e wz ⟨rfl, hwz⟩
         obtain rfl := hwz.symm))
    all_goals
      go_wp2_with fail
      go_meet
      first
        | exact HMT.out _ HPU.out.1 HPU.out.2
        | (have hp2 : p < w2.heap.size := Nat.lt_of_lt_of_le hps HG2.out.size
           exact getCut_room HPU.out.1 HPU.out.2 HS3.out ⟨by omega, by have := lt_of_cell HQ2.out; omega, HG2.out.size⟩ HGXB.out)
        | (have hs3 := HGX3.out.size
           exact ⟨_, rfl, T4.new _ _ _ _ _ _, (trst_mono HS3.out (fun k a hk => ⟨a, Nat.ne_of_lt hk⟩)).next ((Below.refl _ _).alloc (Nat.le_refl _) _), ⟨by omega, by omega, hs3⟩, grown_then HGX3.out (((Below.refl _ _).alloc (Nat.le_refl _) _).mono hs3)⟩)
  case rest =>
    obtain ⟨b5, rfl, ht5, hr5, hne5, hg5⟩ := hcut
    have HT5 := hideIt ht5
    have HR5 := hideIt hr5
    have HTR5 := hideIt (HTX.out.grown hg5 (by omega))
    have q5 := tgrown_cell hg5 HQX.out hqp
    have HB5 := hideIt (HBX.out.grown hg5 HBX.out.size (fun k hk => by cases hk; omega))
    have hb5w : w.heap.size < b5 := Nat.lt_of_lt_of_le HTX.out.lt hne5.2.2
    have hb5p : b5 ≠ p := hne5.1
    have hb5q : b5 ≠ q := hne5.2.1
    clear ht5 hr5 hg5 hne5 HTA HSA HQA HBA HRD HRX HTX HQX HBX HCL hq
    generalize wc = W5 at HT5 HR5 HTR5 HB5 q5 ⊢
    have HC5 := hideIt (txgaR_any p q (fun k => k ≠ b5) bs st2 W5 q5 hqp HR5.out (fun k hk => by have := HT5.out.lt; omega) HL.out)
    have HEN : Hid (w.heap.size < W5.heap.size) := hideIt HTR5.out.lt
    go_wp2_with fail
    refine HC5.out.mono ?_
    rintro e w6 ⟨z6, rfl, ho6, hr6, hg6, hl6⟩
    obtain ⟨rs, hrs⟩ : ∃ r, r = (getR bs st2).1 := ⟨_, rfl⟩
    obtain ⟨st3, hst3⟩ : ∃ s, s = (getR bs st2).2 := ⟨_, rfl⟩
    rw [← hrs] at ho6 hl6
    rw [← hst3] at hr6
    have HRS := hideIt (And.intro hrs hst3)
    obtain ⟨a6, c6, rfl⟩ := own_form ho6
    have ht6 := HT5.out.grown hg6 hb5p
    have x0 := ht6.1.1
    have x1 := ht6.1.2.1
    have x2 := ht6.1.2.2.1
    have x3 := ht6.1.2.2.2
    have f2 := ht6.2 2
    have hgs := grown_set (p := b5) (grown_refl w6 (some b5)) 2 (.slice a6 rs.length c6)
    have HT6 := hideIt (ht6.set2 (.slice a6 rs.length c6))
    have HR6 := hideIt (trst_room hr6 hgs hb5p)
    have HTR6 := hideIt ((HTR5.out.grown hg6 (by omega)).grown hgs (by omega))
    have HQ6 := hideIt (tgrown_cell hgs (tgrown_cell hg6 q5 hqp) (fun e => hb5q e.symm))
    have HB6 := hideIt ((HB5.out.grown hg6 HB5.out.size (fun k hk => by cases hk; omega)).grown hgs (Nat.le_trans HB5.out.size hg6.size) (fun k hk => by cases hk; omega))
    have HD6 := hideIt (RowIn.kept (RowIn.mono (A := (W5.heap.size ≤ ·)) (A' := fun k => w.heap.size < k ∧ k ≠ p ∧ k ≠ b5) (RowIn.of_own ho6 (fun _ h => h)) (fun k h _ => by have := HEN.out; have := HT5.out.lt; have := HR5.out.lt; omega)) (Kept.of_grown hgs (fun h => h.2.2 rfl)))
    have HL6 := hideIt hl6
    have hqq6 : (w6.setCell ⟨b5, 2, none⟩ (.slice a6 rs.length c6)).cell? ⟨q, 0, none⟩ = some (.pointer (some ⟨p, 0, none⟩)) := HQ6.out
    have z3 : (w6.setCell ⟨b5, 2, none⟩ (.slice a6 rs.length c6)).cell? ⟨b5, 3, none⟩ = some (.slice none 0 0) := HT6.out.1.2.2.2
    clear ho6 hr6 hg6 hl6 hgs ht6 hrs hst3 HC5 HT5 HR5 HTR5 HB5 q5 HEN
    go_wp2_with fail
    clear hqq6 z3
    generalize w6.setCell ⟨b5, 2, none⟩ (.slice a6 rs.length c6) = W6 at HT6 HR6 HTR6 HQ6 HB6 HD6 ⊢
    clear x0 x1 x2 x3 f2
    have HEN : Hid (w.heap.size < W6.heap.size) := hideIt HTR6.out.lt
    have HC6 := hideIt (txgaW_any p q (fun k => k ≠ b5) bs st3 W6 HQ6.out hqp HR6.out (fun k hk => by have := HT6.out.lt; omega) HL.out)
    refine HC6.out.mono ?_
    rintro e w7 ⟨z7, rfl, ho7, hr7, hg7, hl7⟩
    obtain ⟨ws, hws⟩ : ∃ r, r = (getW bs st3).1 := ⟨_, rfl⟩
    obtain ⟨st4, hst4⟩ : ∃ s, s = (getW bs st3).2 := ⟨_, rfl⟩
    rw [← hws] at ho7 hl7
    rw [← hst4] at hr7
    have HWS := hideIt (And.intro hws hst4)
    obtain ⟨a7, c7, rfl⟩ := own_form ho7
    have ht7 := HT6.out.grown hg7 hb5p
    have x0 := ht7.1.1
    have x1 := ht7.1.2.1
    have x2 := ht7.1.2.2.1
    have x3 := ht7.1.2.2.2
    have f3 := ht7.2 3
    have hgs := grown_set (p := b5) (grown_refl w7 (some b5)) 3 (.slice a7 ws.length c7)
    have HT7 := hideIt (ht7.set3 (.slice a7 ws.length c7))
    have HR7 := hideIt (trst_room hr7 hgs hb5p)
    have HTR7 := hideIt ((HTR6.out.grown hg7 (by omega)).grown hgs (by omega))
    have HQ7 := hideIt (tgrown_cell hgs (tgrown_cell hg7 HQ6.out hqp) (fun e => hb5q e.symm))
    have hq7 := tgrown_cell hg7 HQ6.out hqp
    have HB7 := hideIt ((HB6.out.grown hg7 HB6.out.size (fun k hk => by cases hk; omega)).grown hgs (Nat.le_trans HB6.out.size hg7.size) (fun k hk => by cases hk; omega))
    have HD7 := hideIt (RowIn.kept (RowIn.kept HD6.out (Kept.of_grown hg7 (fun h => h.2.1 rfl))) (Kept.of_grown hgs (fun h => h.2.2 rfl)))
    have HE7 := hideIt (RowIn.kept (RowIn.mono (A := (W6.heap.size ≤ ·)) (A' := fun k => w.heap.size < k ∧ k ≠ p ∧ k ≠ b5) (RowIn.of_own ho7 (fun _ h => h)) (fun k h _ => by have := HEN.out; have := HT6.out.lt; have := HR6.out.lt; omega)) (Kept.of_grown hgs (fun h => h.2.2 rfl)))
    have HL7 := hideIt hl7
    have hqq7 : (w7.setCell ⟨b5, 3, none⟩ (.slice a7 ws.length c7)).cell? ⟨q, 0, none⟩ = some (.pointer (some ⟨p, 0, none⟩)) := HQ7.out
    clear ho7 hr7 hg7 hl7 hgs ht7 hws hst4 HC6 HT6 HR6 HTR6 HB6 HQ6 HEN HD6
    go_wp2_with fail
    clear hqq7 hq7
    generalize w7.setCell ⟨b5, 3, none⟩ (.slice a7 ws.length c7) = W7 at HT7 HR7 HTR7 HQ7 HB7 HD7 HE7 ⊢
    clear x0 x1 x2 x3 f3
    refine (rEnd_any p _ bs st4 W7 HR7.out (fun k hk => by have := HT7.out.lt; have := HR7.out.lt; omega) HL.out).mono ?_
    rintro e w8 ⟨v8, rfl, hv8, hb8⟩
    have hform : (endOf bs st4 = none ∧ v8 = .nilIface) ∨ (endOf bs st4 ≠ none ∧ ∃ t y, v8 = .iface t y) := by
      cases hE : endOf bs st4 with
      | none => rw [hE] at hv8; exact Or.inl ⟨rfl, hv8⟩
      | some x => rw [hE] at hv8; obtain ⟨n, s, j⟩ := x; exact Or.inr ⟨(fun e => nomatch e), One.iface hv8⟩
    have HT8 := hideIt (HT7.out.next hb8)
    have HTR8 := hideIt (HTR7.out.next hb8)
    have HB8 := hideIt (HB7.out.trans (hb8.mono HB7.out.size))
    have HD8 := hideIt (RowIn.kept HD7.out (Kept.of_all hb8))
    have HE8 := hideIt (RowIn.kept HE7.out (Kept.of_all hb8))
    have HALL : Hid (cl = cliN (gC bs).1 ∧ y2 = (gN bs).1 ∧ rs = (gRs bs).1 ∧ ws = (gWs bs).1 ∧ st4 = (gWs bs).2) := hideIt (by
      obtain ⟨k1, k2, k3, k4, k5⟩ := HYS.out
      obtain ⟨k6, k7⟩ := HRS.out
      obtain ⟨k8, k9⟩ := HWS.out
      have e1 : y2 = (gN bs).1 := by rw [k3, k2]; rfl
      have e2 : st2 = (gN bs).2 := by rw [k4, k2]; rfl
      have e3 : rs = (gRs bs).1 := by rw [k6, e2]; rfl
      have e4 : st3 = (gRs bs).2 := by rw [k7, e2]; rfl
      exact ⟨by rw [k5, k1], e1, e3, by rw [k8, e4]; rfl, by rw [k9, e4]; rfl⟩)
    clear hb8 hv8 HT7 HR7 HTR7 HB7 HQ7 HD7 HE7
    rcases hform with ⟨hE, rfl⟩ | ⟨hE, t8, y8, rfl⟩
    case inr =>
      have HNO : Hid (¬ gTx bs) := hideIt (fun h => hE (by rw [HALL.out.2.2.2.2]; exact h.1))
      clear hE
      go_wp2_with fail
      refine (txthrough_some t8 y8 w8).mono ?_
      rintro e w9 ⟨t9, y9, rfl, hb9⟩
      have htr := HTR8.out.next hb9
      have g0 := htr.1.1
      have g1 := htr.1.2.1
      have g2 := htr.1.2.2.1
      have g3 := htr.1.2.2.2
      have f0 := htr.2 0
      have f1 := htr.2 1
      have f2 := htr.2 2
      have f3 := htr.2 3
      have HB9 := hideIt (HB8.out.trans (hb9.mono HB8.out.size))
      have HPU := hideIt (htr.put (.int .i64 0) (.int .i64 0) (.slice none 0 0) (.slice none 0 0))
      clear hb9 htr
      go_wp2
      obtain ⟨ht4, hgr⟩ := HPU.out
      clear HPU g0 g1 g2 g3 f0 f1 f2 f3
      generalize (((w9.setCell ⟨w.heap.size, 0, none⟩ (.int .i64 0)).setCell ⟨w.heap.size, 1, none⟩ (.int .i64 0)).setCell ⟨w.heap.size, 2, none⟩ (.slice none 0 0)).setCell ⟨w.heap.size, 3, none⟩ (.slice none 0 0) = W4 at ht4 hgr ⊢
      refine bodyPost_ret (v := .tuple #[.agg #[.int .i64 0, .int .i64 0, .slice none 0 0, .slice none 0 0], .iface t9 y9]) (by simp [results, Tryz.results12, go_sem, ht4.1.1, ht4.1.2.1, ht4.1.2.2.1, ht4.1.2.2.2]) rfl ?_
      exact ⟨_, _, rfl, HB9.out.grown hgr HB9.out.size (fun k hk => by cases hk; exact Nat.le_refl _), Or.inr ⟨HNO.out, rfl, _, _, rfl⟩⟩
    have HE := hideIt hE
    have x0 := HT8.out.1.1
    have x1 := HT8.out.1.2.1
    have x2 := HT8.out.1.2.2.1
    have x3 := HT8.out.1.2.2.2
    clear hE
    go_wp2_with fail
    refine (txCheck_any w8 _ cl y2 _ _ rs ws HD8.out HE8.out (by have := HL6.out; omega) (by have := HL7.out; omega)).mono ?_
    rintro e w9 ⟨er, rfl, hck, hb9⟩
    have htr := HTR8.out.next hb9
    have g0 := htr.1.1
    have g1 := htr.1.2.1
    have g2 := htr.1.2.2.1
    have g3 := htr.1.2.2.2
    have f0 := htr.2 0
    have f1 := htr.2 1
    have f2 := htr.2 2
    have f3 := htr.2 3
    have ht9 := HT8.out.next hb9
    replace x0 := ht9.1.1
    replace x1 := ht9.1.2.1
    replace x2 := ht9.1.2.2.1
    replace x3 := ht9.1.2.2.2
    have HB9 := hideIt (HB8.out.trans (hb9.mono HB8.out.size))
    have HD9 := hideIt (RowIn.kept HD8.out (Kept.of_all hb9))
    have HE9 := hideIt (RowIn.kept HE8.out (Kept.of_all hb9))
    rcases hck with ⟨hrb, rfl⟩ | ⟨hrb, ho⟩
    · have HYES : Hid (gTx bs) := hideIt ⟨by rw [← HALL.out.2.2.2.2]; exact HE.out, by rw [← HALL.out.1, ← HALL.out.2.1, ← HALL.out.2.2.1, ← HALL.out.2.2.2.1]; exact hrb⟩
      have HPU := hideIt (htr.put (.int .i64 cl) (.int .i64 y2) (.slice a6 rs.length c6) (.slice a7 ws.length c7))
      clear hb9 htr hrb ht9
      go_wp2
      obtain ⟨ht4, hgr⟩ := HPU.out
      clear HPU g0 g1 g2 g3 f0 f1 f2 f3 x0 x1 x2 x3
      generalize (((w9.setCell ⟨w.heap.size, 0, none⟩ (.int .i64 cl)).setCell ⟨w.heap.size, 1, none⟩ (.int .i64 y2)).setCell ⟨w.heap.size, 2, none⟩ (.slice a6 rs.length c6)).setCell ⟨w.heap.size, 3, none⟩ (.slice a7 ws.length c7) = W4 at ht4 hgr ⊢
      refine bodyPost_ret (v := .tuple #[.agg #[.int .i64 cl, .int .i64 y2, .slice a6 rs.length c6, .slice a7 ws.length c7], .nilIface]) (by simp [results, Tryz.results12, go_sem, ht4.1.1, ht4.1.2.1, ht4.1.2.2.1, ht4.1.2.2.2]) rfl ?_
      refine ⟨_, _, rfl, HB9.out.grown hgr HB9.out.size (fun k hk => by cases hk; exact Nat.le_refl _), Or.inl ⟨HYES.out, rfl, .slice a6 rs.length c6, .slice a7 ws.length c7, by rw [← HALL.out.1, ← HALL.out.2.1], ?_, ?_⟩⟩
      · rw [← HALL.out.2.2.1]
        exact RowIn.mono (RowIn.kept (RowIn.mono (A' := fun k => w.heap.size ≤ k ∧ k ≠ w.heap.size) HD9.out (fun k h _ => ⟨Nat.le_of_lt h.1, by omega⟩)) (Kept.of_grown hgr (fun h => h.2 rfl))) (fun _ h _ => h.1)
      · rw [← HALL.out.2.2.2.1]
        exact RowIn.mono (RowIn.kept (RowIn.mono (A' := fun k => w.heap.size ≤ k ∧ k ≠ w.heap.size) HE9.out (fun k h _ => ⟨Nat.le_of_lt h.1, by omega⟩)) (Kept.of_grown hgr (fun h => h.2 rfl))) (fun _ h _ => h.1)
    · have HNO : Hid (¬ gTx bs) := hideIt (fun h => by
        have := h.2
        rw [← HALL.out.1, ← HALL.out.2.1, ← HALL.out.2.2.1, ← HALL.out.2.2.2.1, hrb] at this
        cases this)
      obtain ⟨t9, y9, rfl⟩ := ho.iface
      have HPU := hideIt (htr.put (.int .i64 0) (.int .i64 0) (.slice none 0 0) (.slice none 0 0))
      clear hb9 htr hrb ht9 ho
      go_wp2
      obtain ⟨ht4, hgr⟩ := HPU.out
      clear HPU g0 g1 g2 g3 f0 f1 f2 f3 x0 x1 x2 x3
      generalize (((w9.setCell ⟨w.heap.size, 0, none⟩ (.int .i64 0)).setCell ⟨w.heap.size, 1, none⟩ (.int .i64 0)).setCell ⟨w.heap.size, 2, none⟩ (.slice none 0 0)).setCell ⟨w.heap.size, 3, none⟩ (.slice none 0 0) = W4 at ht4 hgr ⊢
      refine bodyPost_ret (v := .tuple #[.agg #[.int .i64 0, .int .i64 0, .slice none 0 0, .slice none 0 0], .iface t9 y9]) (by simp [results, Tryz.results12, go_sem, ht4.1.1, ht4.1.2.1, ht4.1.2.2.1, ht4.1.2.2.2]) rfl ?_
      exact ⟨_, _, rfl, HB9.out.grown hgr HB9.out.size (fun k hk => by cases hk; exact Nat.le_refl _), Or.inr ⟨HNO.out, rfl, _, _, rfl⟩⟩
end Go.Proofs.YtohlepbfjgehgaaGreatDoor
