/-
  What is proved here: seals' Seals in memory: a map whose keys are seals; New, Many, Signed, wrong, over this program.
-/
import Derived.Test.YtpgahjnjkihmhaaGreatDoorSA
import Derived.Test.YtpgahjnjkihmhaaGreatDoorTurn
import Derived.DeepKeys4
import Derived.ChangeKeys
namespace Go.Proofs.YtpgahjnjkihmhaaGreatDoor
open Go.RowKit Go.Extern.Stop Go.Stop Go.Extern

theorem laidOutS : laidOutB Tryz.prog = true := by kernel_rfl
theorem sealLaw : Maps.Keyed Tryz.prog 119 := Maps.Keyed.of_law (deep_law_laid laidOutS (m := 2) (by omega) (of_decide_eq_true (by kernel_rfl)) (by kernel_rfl) (by kernel_rfl))
theorem zeroUnit (w : World) : (zeroValue 117).run Tryz.prog w = .ok (.agg #[]) w := by kernel_rfl

theorem wf_of_fits {n : Int} (h : fits n) : (Lit.int .i64 n).wf = true := by
  unfold fits at h
  simp [Lit.wf, IntKind.min, IntKind.max, IntKind.signed, IntKind.bits]
  omega

/-- a seal as a key -/
def kb (a b : Int) : Lit := .string (keyBytes [.int .i64 a, .int .i64 b])
theorem kb_inj {a b c d : Int} (ha : fits a) (hb : fits b) (hc : fits c) (hd : fits d) (e : kb a b = kb c d) : a = c ∧ b = d := by
  unfold kb at e
  injection e with e
  have h := keyBytes_inj (l := [.int .i64 a, .int .i64 b]) (l' := [.int .i64 c, .int .i64 d]) ⟨rfl, rfl, trivial⟩
    (by intro x hx; simp at hx; rcases hx with rfl | rfl; exact wf_of_fits ha; exact wf_of_fits hb)
    (by intro x hx; simp at hx; rcases hx with rfl | rfl; exact wf_of_fits hc; exact wf_of_fits hd) e
  simpa using h
theorem sealCells : Tryz.prog.cellsOf 119 = 2 := by kernel_rfl
theorem sealInt : Tryz.prog.cellsOf 3 = 1 := by kernel_rfl
theorem sealSize : Tryz.prog.types.size = 206 := by kernel_rfl
theorem sealKey : Tryz.prog.keyType 119 = true := by kernel_rfl
theorem key_int {d : Nat} {a : Int} (ha : fits a) : Tryz.prog.keyLits (d + 1) 3 [.int .i64 a] = some [.int .i64 a] := by
  unfold Program.keyLits
  rw [Tryz.underlying3]
  simp [wf_of_fits ha]
theorem key_seal {a b : Int} (ha : fits a) (hb : fits b) : keyOf Tryz.prog 119 (.agg #[.int .i64 a, .int .i64 b]) = some (kb a b) := by
  have h2 : (Value.agg #[.int .i64 a, .int .i64 b]).formed Tryz.prog 119 = true := by kernel_rfl
  have h3 : Tryz.prog.keyLits (Tryz.prog.types.size + 1) 119 [.int .i64 a, .int .i64 b] = some [.int .i64 a, .int .i64 b] := by
    rw [sealSize]
    unfold Program.keyLits
    rw [Tryz.underlying119]
    simp [sealCells, sealInt, key_int ha, key_int hb]
  unfold keyOf
  rw [Tryz.underlying119]
  simp only [sealKey, h2, Bool.and_self, if_true]
  show (Tryz.prog.keyLits (Tryz.prog.types.size + 1) 119 [.int .i64 a, .int .i64 b]).map _ = _
  rw [h3]
  rfl

/-- who may sign what -/
abbrev okS (who d : Int) : Prop := smb who ∧ 0 ≤ d
theorem fits_smb {who : Int} (h : smb who) : fits who := by
  unfold fits
  rcases h with ⟨h1, h2, _⟩ | h <;> omega

/-- D is the table of the seals L -/
def STab (L : List (Int × Int)) (D : DataW Unit) : Prop :=
  Maps.Tidy D ∧ Maps.size D = L.length ∧ (∀ x ∈ L, okS x.1 x.2 ∧ fits x.2) ∧ ∀ a b, fits a → fits b → Maps.has D (kb a b) = decide ((a, b) ∈ L)
theorem STab.empty : STab [] (.map []) := ⟨Maps.tidy_empty, rfl, by simp, fun a b _ _ => rfl⟩
theorem STab.put {L : List (Int × Int)} {D : DataW Unit} {a b : Int} (h : STab L D) (hT : Maps.Tidy (D.put (kb a b) (.agg []))) (hk : okS a b) (hb : fits b) (hn : (a, b) ∉ L) : STab (L ++ [(a, b)]) (D.put (kb a b) (.agg [])) := by
  obtain ⟨h1, h2, h3, h4⟩ := h
  have ha := fits_smb hk.1
  refine ⟨hT, ?_, ?_, ?_⟩
  · rw [Maps.size_put h1, h4 a b ha hb]
    simp [hn, h2]
  · intro x hx
    simp only [List.mem_append, List.mem_singleton] at hx
    rcases hx with hx | rfl
    · exact h3 x hx
    · exact ⟨hk, hb⟩
  · intro c d hc hd
    by_cases e : kb c d = kb a b
    · obtain ⟨rfl, rfl⟩ := kb_inj hc hd ha hb e
      rw [Maps.has_put_same h1.isMap (show WideAt.IsKeyLit (kb c d) from trivial)]
      simp
    · rw [Maps.has_put_other e, h4 c d hc hd]
      have : ¬ ((c, d) = (a, b)) := fun h => by
        injection h with e1 e2
        subst e1; subst e2
        exact e rfl
      simp [this]

/-- a Seals at p that has the seals L; its memory lies in blocks of O -/
def SealSt (w : World) (p : Nat) (O : Nat → Prop) (L : List (Int × Int)) : Prop :=
  ∃ (m : Nat) (D : DataW Unit), w.cell? ⟨p, 0, none⟩ = some (.map (some m)) ∧ w.ownsMap Tryz.prog 119 unitElem m L.length D ∧ STab L D ∧ O p ∧ O m ∧ L.length ≤ 131072
theorem SealSt.lt {w : World} {p : Nat} {O : Nat → Prop} {L : List (Int × Int)} (h : SealSt w p O L) : p < w.heap.size := by
  obtain ⟨m, D, c0, _⟩ := h
  exact lt_of_cell (a := ⟨p, 0, none⟩) c0
theorem SealSt.short {w : World} {p : Nat} {O : Nat → Prop} {L : List (Int × Int)} (h : SealSt w p O L) : L.length ≤ 131072 := by
  obtain ⟨m, D, _, _, _, _, _, h1⟩ := h
  exact h1
theorem SealSt.ok {w : World} {p : Nat} {O : Nat → Prop} {L : List (Int × Int)} (h : SealSt w p O L) : ∀ x ∈ L, okS x.1 x.2 ∧ fits x.2 := by
  obtain ⟨m, D, _, _, ht, _⟩ := h
  exact ht.2.2.1
theorem SealSt.kept {w w' : World} {p : Nat} {O : Nat → Prop} {L : List (Int × Int)} (h : SealSt w p O L) (hk : Kept O w w') : SealSt w' p O L := by
  have hlt := h.lt
  obtain ⟨m, D, c0, hm, ht, o1, o2, r⟩ := h
  have hp := hk p o1 hlt
  obtain ⟨es, clock, hb, F⟩ := hm
  exact ⟨m, D, (World.cell?_of_block (a := ⟨p, 0, none⟩) hp).trans c0, ⟨es, clock, (hk m o2 (Array.getElem?_eq_some_iff.1 hb).1).trans hb, F⟩, ht, o1, o2, r⟩
theorem SealSt.mono {w : World} {p : Nat} {O O' : Nat → Prop} {L : List (Int × Int)} (h : SealSt w p O L) (hO : ∀ k, O k → k < w.heap.size → O' k) : SealSt w p O' L := by
  have hlt := h.lt
  obtain ⟨m, D, c0, hm, ht, o1, o2, r⟩ := h
  exact ⟨m, D, c0, hm, ht, hO p o1 hlt, hO m o2 hm.lt, r⟩

set_option maxHeartbeats 4000000 in
theorem sNew_any (w : World) : Calls Tryz.prog 26 #[] w fun e w' => ∃ p, e = .returned (.pointer (some ⟨p, 0, none⟩)) ∧ SealSt w' p (fun k => w.heap.size ≤ k ∧ k < w'.heap.size) [] ∧ Below w.heap.size w w' := by
  have hmm := @run_makeMap Tryz.prog
  go_enter Tryz.func26, Tryz.ntmps26
  go_wp2
  go_ret
  have e1 : (w.alloc (.map #[] 0)).heap.size = w.heap.size + 1 := by simp
  refine ⟨w.heap.size + 1, rfl, ⟨w.heap.size, .map [], ?_, (World.ownsMap_made w _ _ _).alloc _, STab.empty, ⟨by omega, by simp⟩, ⟨by omega, by simp; omega⟩, by simp⟩, ((Below.refl _ _).alloc (Nat.le_refl _) _).alloc (by simp) _⟩
  · rw [World.cell?_alloc_at _ _ _ _ e1.symm]; rfl

theorem sMany_any (w : World) (p : Nat) (O : Nat → Prop) (L : List (Int × Int)) (h : SealSt w p O L) : Calls Tryz.prog 59 #[.pointer (some ⟨p, 0, none⟩)] w fun e w' => e = .returned (.int .i64 L.length) ∧ w' = w := by
  obtain ⟨m, D, c0, hm, ht, _, _, hl⟩ := h
  have hln := fun ty => hm.len Tryz.underlying107 ty
  rw [ht.2.1] at hln
  clear hm ht
  go_enter Tryz.func59, Tryz.ntmps59
  go_wp2
  go_ret
  exact ⟨rfl, rfl⟩

theorem swrong_any (w : World) (n who : Int) (hn : (n == 0) = false) :
    Calls Tryz.prog 58 #[.int .i64 n, .int .i64 who] w fun e w' => ∃ v, e = .returned v ∧ One w' (fun k => k = w.heap.size) v n ⟨#[115, 101, 97, 108, 115]⟩ who ∧ Below w.heap.size w w' := by
  go_enter Tryz.func58, Tryz.ntmps58
  go_wp2_with fail
  refine (Of_err n hn w).mono ?_
  rintro e w1 ⟨rfl, rfl⟩
  go_wp2_with fail
  refine (Wrap_some 61 (.int .i64 n) _ _ _).mono ?_
  rintro e w3 ⟨rfl, rfl⟩
  go_wp2
  go_ret
  refine ⟨_, rfl, ⟨w1.heap.size, rfl, rfl, ?_, ?_, ?_⟩, (Below.refl _ _).alloc (Nat.le_refl _) _⟩
  · rw [World.cell?_alloc_at _ _ _ _ rfl]; rfl
  · rw [World.cell?_alloc_at _ _ _ _ rfl]; rfl
  · rw [World.cell?_alloc_at _ _ _ _ rfl]; rfl

theorem look_seal {w : World} {m n : Nat} {D : DataW Unit} {L : List (Int × Int)} {a b : Int} (hm : w.ownsMap Tryz.prog 119 unitElem m n D) (ht : STab L D) (ha : fits a) (hb : fits b) :
    (Instr.lookup 107 (.map (some m)) (.agg #[.int .i64 a, .int .i64 b]) true).run Tryz.prog w = .ok (.tuple #[.agg #[], .bool (decide ((a, b) ∈ L))]) w := by
  obtain ⟨v, ps, hrun, hv⟩ := hm.look_ok sealLaw Tryz.underlying107 (zeroUnit _) unitElem_mk (key_seal ha hb)
  obtain ⟨rfl, _⟩ := unitElem_inv hv
  rw [hrun, ht.2.2.2 a b ha hb]

set_option maxHeartbeats 4000000 in
theorem sSigned_any (w : World) (p : Nat) (O : Nat → Prop) (L : List (Int × Int)) (a b : Int) (h : SealSt w p O L) (ha : fits a) (hb : fits b) :
    Calls Tryz.prog 35 #[.pointer (some ⟨p, 0, none⟩), .int .i64 a, .int .i64 b] w fun e w' => e = .returned (.bool (decide ((a, b) ∈ L))) ∧ Below w.heap.size w w' := by
  obtain ⟨m, D, c0, hm, ht, _, _, hl⟩ := h
  have hlk := look_seal hm ht ha hb
  clear hm ht ha hb
  generalize decide ((a, b) ∈ L) = r at hlk ⊢
  go_enter Tryz.func35, Tryz.ntmps35
  go_wp2
  go_ret
  exact ⟨rfl, (Below.refl _ _).alloc (Nat.le_refl _) _⟩
end Go.Proofs.YtpgahjnjkihmhaaGreatDoor
