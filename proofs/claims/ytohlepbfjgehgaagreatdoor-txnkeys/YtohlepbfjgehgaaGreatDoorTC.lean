/-
  What is proved here: a copy of texts; a text looked for among rising ones; the reads and writes whose keys are some; over this program.
-/
import Derived.Test.YtohlepbfjgehgaaGreatDoorTB
namespace Go.Proofs.YtohlepbfjgehgaaGreatDoor
open Go.RowKit Go.Extern.Stop Go.Stop Go.Extern Go.Sort

theorem str_data (s : ByteArray) : s = ⟨s.data.toList.toArray⟩ := by cases s; simp
set_option maxRecDepth 100000 in
theorem cloneS_any (w : World) (A : Nat → Prop) (v : Value) (T : List (List UInt8)) (hv : SIn w A v T) (hl : T.length ≤ 100000) :
    Calls Tryz.prog 87 #[v] w fun e w' => ∃ z, e = .returned z ∧ w'.ownsRow w.heap.size 9 1 z T.length (keyCells T) ∧ Below w.heap.size w w' := by
  have hv2 := hv
  obtain ⟨a, cap, rfl, hnil, hc⟩ := hv2
  cases a with
  | none =>
    obtain ⟨rfl, hl0, _⟩ := hnil rfl
    have hT : T = [] := List.eq_nil_of_length_eq_zero hl0
    subst hT
    refine (Tryz.slices_Clone_string_nil 0 0 w).mono ?_
    rintro e w' ⟨rfl, rfl⟩
    exact ⟨_, rfl, World.ownsRow_nil _ _ _ _, Below.refl _ _⟩
  | some ad =>
    by_cases h0 : T.length = 0
    · have hT : T = [] := List.eq_nil_of_length_eq_zero h0
      subst hT
      refine (Tryz.slices_Clone_string_zero ad cap w).mono ?_
      rintro e w' ⟨v', rfl, ho, _, hb⟩
      exact ⟨_, rfl, ho, hb⟩
    · obtain ⟨b, off, e1, _, _⟩ := hc 0 (encStr (T[0]'(by omega))) (by simp [keyCells, show 0 < T.length by omega])
      cases e1
      refine (Tryz.slices_Clone_string b off T.length cap (T.map fun s => ⟨s.toArray⟩) w (by simp) (by omega) (fun j hj => ?_)).mono ?_
      · have hj' : j < T.length := by simpa using hj
        obtain ⟨b', off', e1, _, h2⟩ := hc j (encStr T[j]) (by simp [keyCells, hj'])
        cases e1
        rw [h2]
        simp [List.getD, hj', encStr]
      · rintro e w' ⟨v', rfl, ho, _, hb⟩
        refine ⟨_, rfl, ?_, hb⟩
        have : ((T.map fun s => (⟨s.toArray⟩ : ByteArray)).take T.length).map Value.string = keyCells T := by
          rw [List.take_of_length_le (by simp)]
          simp [keyCells, encStr]
        rw [this] at ho
        exact ho

theorem place_ex {L : List (List UInt8)} (hr : L.Pairwise kLt) (x : List UInt8) : ∃ k, k ≤ L.length ∧ (∀ t y, t < k → L[t]? = some y → kLt y x) ∧ (∀ t y, k ≤ t → L[t]? = some y → ¬ kLt y x) := by
  induction L with
  | nil => exact ⟨0, Nat.le_refl _, fun t y h => by omega, fun t y _ h => by simp at h⟩
  | cons z r ih =>
    obtain ⟨h1, h2⟩ := List.pairwise_cons.1 hr
    by_cases hz : kLt z x
    · obtain ⟨k, a, b, c⟩ := ih h2
      refine ⟨k + 1, by simp; omega, fun t y ht hy => ?_, fun t y ht hy => ?_⟩
      · cases t with
        | zero => simp at hy; subst hy; exact hz
        | succ t => exact b t y (by omega) (by simpa using hy)
      · cases t with
        | zero => omega
        | succ t => exact c t y (by omega) (by simpa using hy)
    · refine ⟨0, Nat.zero_le _, fun t y h => by omega, fun t y _ hy => ?_⟩
      cases t with
      | zero => simp at hy; subst hy; exact hz
      | succ t =>
        have hm : y ∈ r := List.mem_of_getElem? (by simpa using hy)
        exact fun h => hz (kLt_trans (h1 y hm) h)
theorem place_mem {L : List (List UInt8)} (hr : L.Pairwise kLt) {x : List UInt8} {k : Nat} (h1 : ∀ t y, t < k → L[t]? = some y → kLt y x) (h2 : ∀ t y, k ≤ t → L[t]? = some y → ¬ kLt y x) : x ∈ L ↔ L[k]? = some x := by
  constructor
  · intro hm
    obtain ⟨t, ht, e⟩ := List.mem_iff_getElem.1 hm
    have hx : L[t]? = some x := by simp [ht, e]
    by_cases hk : t < k
    · exact absurd (h1 t x hk hx) (kLt_irrefl _)
    · by_cases htk : t = k
      · subst htk; exact hx
      · have hkl : k < L.length := by omega
        have hy : L[k]? = some L[k] := by simp [hkl]
        have := (List.pairwise_iff_getElem.1 hr) k t hkl ht (by omega)
        rw [e] at this
        exact absurd this (h2 k _ (Nat.le_refl _) hy)
  · intro h; exact List.mem_of_getElem? h
theorem bsS_any (w : World) (A : Nat → Prop) (v : Value) (L : List (List UInt8)) (x : List UInt8) (hv : SIn w A v L) (hr : L.Pairwise kLt) (hl : L.length ≤ 1000000) :
    Calls Tryz.prog 88 #[v, .string ⟨x.toArray⟩] w fun e w' => (∃ a : Nat, e = .returned (.tuple #[.int .i64 a, .bool (decide (x ∈ L))])) ∧ Below w.heap.size w w' := by
  obtain ⟨a, cap, rfl, hnil, hc⟩ := hv
  by_cases h0 : L.length = 0
  · have hT : L = [] := List.eq_nil_of_length_eq_zero h0
    subst hT
    refine (Any2.slices_BinarySearch_string_empty Tryz.laysNm226 a cap ⟨x.toArray⟩ w).mono ?_
    rintro e w' ⟨rfl, rfl⟩
    exact ⟨⟨0, by simp⟩, Below.refl _ _⟩
  · obtain ⟨b, off, e1, _, _⟩ := hc 0 (encStr (L[0]'(by omega))) (by simp [keyCells, show 0 < L.length by omega])
    subst e1
    obtain ⟨k, hk, h1, h2⟩ := place_ex hr x
    let Sx : Nat → ByteArray := fun t => match L[t]? with | some y => ⟨y.toArray⟩ | none => ⟨x.toArray⟩
    have hS : ∀ t y, L[t]? = some y → Sx t = ⟨y.toArray⟩ := fun t y h => by simp only [Sx, h]
    have hS0 : ∀ t, L[t]? = none → Sx t = ⟨x.toArray⟩ := fun t h => by simp only [Sx, h]
    have hI : Lib.bsGo (fun t => Op.bytesLess (Sx t).toList (⟨x.toArray⟩ : ByteArray).toList) L.length 0 L.length = k := by
      refine Lib.bsGo_spec _ k (fun t ht => ?_) (fun t ht => ?_) _ _ _ (by omega) (Nat.zero_le _) hk
      · have hy : L[t]? = some (L[t]'(by omega)) := by simp [show t < L.length by omega]
        rw [hS t _ hy, ByteArray.toList_eq, ByteArray.toList_eq]
        exact h1 t _ ht hy
      · cases hy : L[t]? with
        | none =>
          rw [hS0 t hy, ByteArray.toList_eq]
          simpa [kLt] using kLt_irrefl x
        | some y =>
          rw [hS t y hy, ByteArray.toList_eq, ByteArray.toList_eq]
          simpa [kLt] using h2 t y ht hy
    refine (Any2.slices_BinarySearch_string Tryz.laysNm226 b off L.length cap Sx ⟨x.toArray⟩ w (by omega) (fun j hj => ?_)).mono ?_
    · have hy : L[j]? = some L[j] := by simp [hj]
      obtain ⟨b', off', e1, _, h3⟩ := hc j (encStr L[j]) (by simp [keyCells, hj])
      cases e1
      rw [hS j _ hy]
      exact h3
    · rintro e w' ⟨rfl, q, rfl⟩
      refine ⟨⟨k, ?_⟩, below_drewN w q⟩
      have hd : decide (k < L.length ∧ Sx k = ⟨x.toArray⟩) = decide (x ∈ L) := by
        rw [decide_eq_decide, place_mem hr h1 h2]
        constructor
        · rintro ⟨hkl, e⟩
          have hy : L[k]? = some L[k] := by simp [hkl]
          rw [hS k _ hy] at e
          have : L[k] = x := by simpa using congrArg (fun s : ByteArray => s.data.toList) e
          rw [hy, this]
        · intro hy
          exact ⟨(List.getElem?_eq_some_iff.1 hy).1, hS k _ hy⟩
      rw [hI, hd]

/-- is a key one of some? -/
def isIn (T : List (List UInt8)) (k : List UInt8) : Bool := decide (k ∈ T)
theorem isIn_risen (T : List (List UInt8)) (k : List UInt8) : decide (k ∈ risen T) = isIn T k := decide_eq_decide.2 (risen_mem T k)
theorem filter_take {α : Type} (p : α → Bool) {l : List α} {k : Nat} {x : α} (h : l[k]? = some x) : (l.take (k + 1)).filter p = (l.take k).filter p ++ if p x = true then [x] else [] := by
  obtain ⟨hlt, e⟩ := List.getElem?_eq_some_iff.1 h
  rw [List.take_succ_eq_append_getElem hlt, e, List.filter_append]
  congr 1
  cases hp : p x <;> simp [hp]

def rdChosen (l : List Rd) (T : List (List UInt8)) : List Rd := l.filter fun x => isIn T x.1
set_option maxRecDepth 100000 in
set_option maxHeartbeats 16000000 in
theorem txchR_any (w : World) (A A2 : Nat → Prop) (v kv : Value) (l : List Rd) (T : List (List UInt8)) (hv : RdsIn w A v l) (hkv : SIn w A2 kv T) (hl : l.length ≤ 100000) (hT : T.length ≤ 100000) :
    Calls Tryz.prog 53 #[v, .func (.func 29) #[] #[], kv] w fun e w' => ∃ z, e = .returned z ∧ w'.ownsRow w.heap.size 54 2 z (rdChosen l T).length (rdsCells (rdChosen l T)) ∧ Below w.heap.size w w' := by
  obtain ⟨i0, hi, hi2⟩ := Option.map_eq_some_iff.1 infoRd
  obtain ⟨hz0, hz1, hz2⟩ : i0.zero = some (.agg #[.string ⟨#[]⟩, .int .i64 0]) ∧ i0.size = 2 ∧ i0.bytes = 24 := by
    simp only [Prod.mk.injEq] at hi2; exact hi2
  have HI := hideIt (And.intro hi (And.intro hz0 (And.intro hz1 hz2)))
  have HV : Hid (RdsIn w (· < w.heap.size) v l) := RowIn.mono (A' := (· < w.heap.size)) hv (fun _ _ h => h)
  obtain ⟨a, cap, rfl⟩ := RdsIn.form hv
  have HCL := hideIt (cloneS_any w A2 kv T hkv hT)
  obtain ⟨ak, ck, rfl⟩ := hkv.form
  clear hi hi2 hz0 hz1 hz2 hv hkv
  go_enter Tryz.func53, Tryz.ntmps53
  go_wp2_with fail
  refine HCL.out.mono ?_
  rintro e w1 ⟨z1, rfl, ho1, hb1⟩
  have HB1 := hideIt hb1
  have HRO := hideIt (txroS_any w1 w.heap.size z1 T ho1 hb1.size (by omega))
  obtain ⟨a1, c1, rfl⟩ := own_form ho1
  have HO1 := hideIt ho1
  clear ho1 hb1 HCL
  go_wp2_with fail
  refine HRO.out.mono ?_
  rintro e w2 ⟨z2, rfl, ho2, hg2⟩
  have HB2 : Hid (Below w.heap.size w w2) := hideIt (HB1.out.grown hg2 HB1.out.size (fun j hj => (HO1.out.lt j hj).1))
  have HSI : Hid (SIn w2 (· < w2.heap.size) z2 (risen T)) := hideIt (RowIn.mono (A := fun _ => True) (RowIn.of_own ho2 (fun _ _ => trivial)) (fun _ _ h => h))
  have HVV : Hid (RdsIn w2 (· < w2.heap.size) (.slice a l.length cap) l) := hideIt (RowIn.mono (A' := (· < w2.heap.size)) (RowIn.kept HV.out (Kept.of_below HB2.out (fun _ h _ => h))) (fun _ _ h => h))
  obtain ⟨a2, c2, rfl⟩ := own_form ho2
  have hsz2 : w.heap.size ≤ w2.heap.size := HB2.out.size
  have HRL : Hid ((risen T).length ≤ 1000000) := hideIt (Nat.le_trans (risen_len T) (by omega))
  clear ho2 hg2 HB1 HRO HO1 HV
  go_wp2
  go_loopw [8, 18] (fun ov i wr => ∃ (k : Nat) (aa : Option Addr) (m ac : Nat), k ≤ l.length ∧ i = .int .i64 k ∧ m ≤ k ∧ ov = .slice aa m ac ∧ Hid (m = (rdChosen (l.take k) T).length) ∧ Hid (wr.ownsRow w2.heap.size 54 2 (.slice aa m ac) m (rdsCells (rdChosen (l.take k) T))) ∧ Hid (Below w2.heap.size w2 wr)) (fun _ i _ => l.length - (intOf i).toNat)
  case atStart => exact ⟨0, none, 0, 0, Nat.zero_le _, rfl, Nat.le_refl _, rfl, rfl, World.ownsRow_nil _ _ _ _, Below.refl _ _⟩
  case round =>
    obtain ⟨k, aa, m, ac, hk, rfl, hmk, rfl, HM, HR, HB⟩ := hrel
    by_cases hlt : k < l.length
    · obtain ⟨x, hx⟩ : ∃ x, l[k]? = some x := ⟨l[k], by simp [hlt]⟩
      have HVr : Hid (RdsIn wr (· < w2.heap.size) (.slice a l.length cap) l) := RowIn.kept HVV.out (Kept.of_below HB.out (fun _ h _ => h))
      obtain ⟨b, off, rfl, _, c0, c1⟩ := RdsIn.at HVr.out hx
      have HT : Hid (rdChosen (l.take (k + 1)) T = rdChosen (l.take k) T ++ if isIn T x.1 = true then [x] else []) := hideIt (filter_take _ hx)
      obtain ⟨W, hW, hwb, hws, d0, d1⟩ := room2 wr 54 (.string ⟨x.1.toArray⟩) (.int .i64 x.2)
      have HWB := hideIt hwb
      have HOW := hideIt (HR.out.alloc (.cells #[.string ⟨x.1.toArray⟩, .int .i64 x.2] 54))
      rw [← hW] at HOW
      have HC := hideIt (txreadKey_any x W)
      unfold rdV at HC
      have hsz : w2.heap.size ≤ W.heap.size := by have := HB.out.size; omega
      clear hx HVr hwb
      go_wp2_with fail
      rw [← hW]
      clear hW
      refine HC.out.mono ?_
      rintro e w3 ⟨rfl, hb3⟩
      have HO3 : Hid (w3.ownsRow w2.heap.size 54 2 (.slice aa m ac) m (rdsCells (rdChosen (l.take k) T))) := hideIt (ownsRow_of_block HOW.out (fun g hg => hb3.block g (ownsRow_lt HOW.out hg)))
      have HB3 := hideIt ((HB.out.trans (HWB.out.mono HB.out.size)).trans (hb3.mono hsz))
      have hs3 : w2.heap.size ≤ w3.heap.size := by have := hb3.size; omega
      have HSI3 : Hid (SIn w3 (· < w2.heap.size) (.slice a2 (risen T).length c2) (risen T)) := hideIt (RowIn.kept HSI.out (Kept.of_below HB3.out (fun _ h _ => h)))
      have y0 := (hb3.cell (lt_of_cell d0)).trans d0
      have y1 := (hb3.cell (lt_of_cell d1)).trans d1
      have hwq : wr.heap.size < w3.heap.size := by have := hb3.size; omega
      have hwq2 : w2.heap.size ≤ wr.heap.size := HB.out.size
      clear hb3 c0 c1 d0 d1 hws HOW HC
      go_wp2_with fail
      refine (bsS_any w3 _ _ _ x.1 HSI3.out (risen_rise T) HRL.out).mono ?_
      rintro e w4 ⟨⟨pl, rfl⟩, hb4⟩
      rw [isIn_risen]
      have HO4 : Hid (w4.ownsRow w2.heap.size 54 2 (.slice aa m ac) m (rdsCells (rdChosen (l.take k) T))) := hideIt (ownsRow_of_block HO3.out (fun g hg => hb4.block g (ownsRow_lt HO3.out hg)))
      have HB4 := hideIt (HB3.out.trans (hb4.mono hs3))
      have hs4 : w2.heap.size ≤ w4.heap.size := by have := hb4.size; omega
      have z0 := (hb4.cell (lt_of_cell y0)).trans y0
      have z1 := (hb4.cell (lt_of_cell y1)).trans y1
      clear hb4 y0 y1 HO3 HB3 HSI3
      obtain ⟨is, his⟩ : ∃ is, is = isIn T x.1 := ⟨_, rfl⟩
      rw [← his] at HT ⊢
      clear his
      cases is with
      | false =>
        rw [if_neg (by decide), List.append_nil] at HT
        go_wp2
        refine ⟨⟨k + 1, aa, m, ac, by omega, by go_num, by omega, rfl, ?_, ?_, HB4.out⟩, by simp [intOf]; omega⟩
        · rw [HT.out]; exact HM.out
        · rw [HT.out]; exact HO4.out
      | true =>
        rw [if_pos rfl] at HT
        go_wp2_with (at_builtin; refine wpList_append_own_at _ rfl _ _ 22 rfl w2.heap.size 54 i0 (.agg #[.string ⟨#[]⟩, .int .i64 0]) 2 24 Tryz.underlying22 HI.out.1 HI.out.2.1 HI.out.2.2.1 HI.out.2.2.2 rfl (by decide) _ _ _ rfl (HO4.out.alloc _) ⟨w4.heap.size, 0, none⟩ 1 1 (rdsCells [x]) rfl rfl ?k1 ?k2 ?k3 ?k4 ?k5 ?_)
        case k1 =>
          obtain ⟨U, hU, _, _, hUo⟩ := lit_rd w4 x
          rw [hU] at hUo
          exact hUo.cells rfl
        case k2 => exact rdsCells_one _
        case k3 => unfold maxLen; omega
        case k4 => omega
        case k5 => simp; omega
        intro v' w5 hown' hgrow _ _
        have HG5 := hideIt (grown_trans (World.grownBy_alloc w4 _ _) hgrow)
        have HO5 : Hid (w5.ownsRow w2.heap.size 54 2 v' (m + 1) (rdsCells (rdChosen (l.take (k + 1)) T))) := hideIt (by rw [HT.out, rdsCells_append]; simpa using hown')
        have HM5 : Hid (m + 1 = (rdChosen (l.take (k + 1)) T).length) := hideIt (by rw [HT.out, List.length_append, ← HM.out]; rfl)
        obtain ⟨a', cap', hv'⟩ := own_form hown'
        subst hv'
        clear hown' hgrow
        go_wp2
        refine ⟨⟨k + 1, a', m + 1, cap', by omega, by go_num, by omega, rfl, HM5.out, HO5.out, ?_⟩, by simp [intOf]; omega⟩
        exact HB4.out.grown HG5.out (by have := HB4.out.size; omega) (fun j hj => (HO4.out.lt j hj).1)
    · have ek : k = l.length := by omega
      have HR2 : Hid (wr.ownsRow w.heap.size 54 2 (.slice aa m ac) (rdChosen l T).length (rdsCells (rdChosen l T))) := hideIt (by
        have h := HR.out
        have hm := HM.out
        rw [ek, List.take_length] at h hm
        have := own_mono h hsz2
        rw [← hm]
        exact this)
      have HBE := hideIt (HB2.out.trans (HB.out.mono hsz2))
      clear HR HM
      go_wp2
      go_ret
      exact ⟨_, rfl, HR2.out, HBE.out⟩
def wrChosen (l : List Wr) (T : List (List UInt8)) : List Wr := l.filter fun x => isIn T x.1
set_option maxRecDepth 100000 in
set_option maxHeartbeats 16000000 in
theorem txchW_any (w : World) (A A2 : Nat → Prop) (v kv : Value) (l : List Wr) (T : List (List UInt8)) (hv : WrsIn w A v l) (hkv : SIn w A2 kv T) (hl : l.length ≤ 100000) (hT : T.length ≤ 100000) :
    Calls Tryz.prog 54 #[v, .func (.func 32) #[] #[], kv] w fun e w' => ∃ z, e = .returned z ∧ w'.ownsRow w.heap.size 48 2 z (wrChosen l T).length (wrsCells (wrChosen l T)) ∧ Below w.heap.size w w' := by
  obtain ⟨i0, hi, hi2⟩ := Option.map_eq_some_iff.1 infoWr
  obtain ⟨hz0, hz1, hz2⟩ : i0.zero = some (.agg #[.string ⟨#[]⟩, .string ⟨#[]⟩]) ∧ i0.size = 2 ∧ i0.bytes = 32 := by
    simp only [Prod.mk.injEq] at hi2; exact hi2
  have HI := hideIt (And.intro hi (And.intro hz0 (And.intro hz1 hz2)))
  have HV : Hid (WrsIn w (· < w.heap.size) v l) := RowIn.mono (A' := (· < w.heap.size)) hv (fun _ _ h => h)
  obtain ⟨a, cap, rfl⟩ := WrsIn.form hv
  have HCL := hideIt (cloneS_any w A2 kv T hkv hT)
  obtain ⟨ak, ck, rfl⟩ := hkv.form
  clear hi hi2 hz0 hz1 hz2 hv hkv
  go_enter Tryz.func54, Tryz.ntmps54
  go_wp2_with fail
  refine HCL.out.mono ?_
  rintro e w1 ⟨z1, rfl, ho1, hb1⟩
  have HB1 := hideIt hb1
  have HRO := hideIt (txroS_any w1 w.heap.size z1 T ho1 hb1.size (by omega))
  obtain ⟨a1, c1, rfl⟩ := own_form ho1
  have HO1 := hideIt ho1
  clear ho1 hb1 HCL
  go_wp2_with fail
  refine HRO.out.mono ?_
  rintro e w2 ⟨z2, rfl, ho2, hg2⟩
  have HB2 : Hid (Below w.heap.size w w2) := hideIt (HB1.out.grown hg2 HB1.out.size (fun j hj => (HO1.out.lt j hj).1))
  have HSI : Hid (SIn w2 (· < w2.heap.size) z2 (risen T)) := hideIt (RowIn.mono (A := fun _ => True) (RowIn.of_own ho2 (fun _ _ => trivial)) (fun _ _ h => h))
  have HVV : Hid (WrsIn w2 (· < w2.heap.size) (.slice a l.length cap) l) := hideIt (RowIn.mono (A' := (· < w2.heap.size)) (RowIn.kept HV.out (Kept.of_below HB2.out (fun _ h _ => h))) (fun _ _ h => h))
  obtain ⟨a2, c2, rfl⟩ := own_form ho2
  have hsz2 : w.heap.size ≤ w2.heap.size := HB2.out.size
  have HRL : Hid ((risen T).length ≤ 1000000) := hideIt (Nat.le_trans (risen_len T) (by omega))
  clear ho2 hg2 HB1 HRO HO1 HV
  go_wp2
  go_loopw [8, 18] (fun ov i wr => ∃ (k : Nat) (aa : Option Addr) (m ac : Nat), k ≤ l.length ∧ i = .int .i64 k ∧ m ≤ k ∧ ov = .slice aa m ac ∧ Hid (m = (wrChosen (l.take k) T).length) ∧ Hid (wr.ownsRow w2.heap.size 48 2 (.slice aa m ac) m (wrsCells (wrChosen (l.take k) T))) ∧ Hid (Below w2.heap.size w2 wr)) (fun _ i _ => l.length - (intOf i).toNat)
  case atStart => exact ⟨0, none, 0, 0, Nat.zero_le _, rfl, Nat.le_refl _, rfl, rfl, World.ownsRow_nil _ _ _ _, Below.refl _ _⟩
  case round =>
    obtain ⟨k, aa, m, ac, hk, rfl, hmk, rfl, HM, HR, HB⟩ := hrel
    by_cases hlt : k < l.length
    · obtain ⟨x, hx⟩ : ∃ x, l[k]? = some x := ⟨l[k], by simp [hlt]⟩
      have HVr : Hid (WrsIn wr (· < w2.heap.size) (.slice a l.length cap) l) := RowIn.kept HVV.out (Kept.of_below HB.out (fun _ h _ => h))
      obtain ⟨b, off, rfl, _, c0, c1⟩ := WrsIn.at HVr.out hx
      have HT : Hid (wrChosen (l.take (k + 1)) T = wrChosen (l.take k) T ++ if isIn T x.1 = true then [x] else []) := hideIt (filter_take _ hx)
      obtain ⟨W, hW, hwb, hws, d0, d1⟩ := room2 wr 48 (.string ⟨x.1.toArray⟩) (.string ⟨(x.2).toArray⟩)
      have HWB := hideIt hwb
      have HOW := hideIt (HR.out.alloc (.cells #[.string ⟨x.1.toArray⟩, .string ⟨(x.2).toArray⟩] 48))
      rw [← hW] at HOW
      have HC := hideIt (txwriteKey_any x W)
      unfold wrV at HC
      have hsz : w2.heap.size ≤ W.heap.size := by have := HB.out.size; omega
      clear hx HVr hwb
      go_wp2_with fail
      rw [← hW]
      clear hW
      refine HC.out.mono ?_
      rintro e w3 ⟨rfl, hb3⟩
      have HO3 : Hid (w3.ownsRow w2.heap.size 48 2 (.slice aa m ac) m (wrsCells (wrChosen (l.take k) T))) := hideIt (ownsRow_of_block HOW.out (fun g hg => hb3.block g (ownsRow_lt HOW.out hg)))
      have HB3 := hideIt ((HB.out.trans (HWB.out.mono HB.out.size)).trans (hb3.mono hsz))
      have hs3 : w2.heap.size ≤ w3.heap.size := by have := hb3.size; omega
      have HSI3 : Hid (SIn w3 (· < w2.heap.size) (.slice a2 (risen T).length c2) (risen T)) := hideIt (RowIn.kept HSI.out (Kept.of_below HB3.out (fun _ h _ => h)))
      have y0 := (hb3.cell (lt_of_cell d0)).trans d0
      have y1 := (hb3.cell (lt_of_cell d1)).trans d1
      have hwq : wr.heap.size < w3.heap.size := by have := hb3.size; omega
      have hwq2 : w2.heap.size ≤ wr.heap.size := HB.out.size
      clear hb3 c0 c1 d0 d1 hws HOW HC
      go_wp2_with fail
      refine (bsS_any w3 _ _ _ x.1 HSI3.out (risen_rise T) HRL.out).mono ?_
      rintro e w4 ⟨⟨pl, rfl⟩, hb4⟩
      rw [isIn_risen]
      have HO4 : Hid (w4.ownsRow w2.heap.size 48 2 (.slice aa m ac) m (wrsCells (wrChosen (l.take k) T))) := hideIt (ownsRow_of_block HO3.out (fun g hg => hb4.block g (ownsRow_lt HO3.out hg)))
      have HB4 := hideIt (HB3.out.trans (hb4.mono hs3))
      have hs4 : w2.heap.size ≤ w4.heap.size := by have := hb4.size; omega
      have z0 := (hb4.cell (lt_of_cell y0)).trans y0
      have z1 := (hb4.cell (lt_of_cell y1)).trans y1
      clear hb4 y0 y1 HO3 HB3 HSI3
      obtain ⟨is, his⟩ : ∃ is, is = isIn T x.1 := ⟨_, rfl⟩
      rw [← his] at HT ⊢
      clear his
      cases is with
      | false =>
        rw [if_neg (by decide), List.append_nil] at HT
        go_wp2
        refine ⟨⟨k + 1, aa, m, ac, by omega, by go_num, by omega, rfl, ?_, ?_, HB4.out⟩, by simp [intOf]; omega⟩
        · rw [HT.out]; exact HM.out
        · rw [HT.out]; exact HO4.out
      | true =>
        rw [if_pos rfl] at HT
        go_wp2_with (at_builtin; refine wpList_append_own_at _ rfl _ _ 23 rfl w2.heap.size 48 i0 (.agg #[.string ⟨#[]⟩, .string ⟨#[]⟩]) 2 32 Tryz.underlying23 HI.out.1 HI.out.2.1 HI.out.2.2.1 HI.out.2.2.2 rfl (by decide) _ _ _ rfl (HO4.out.alloc _) ⟨w4.heap.size, 0, none⟩ 1 1 (wrsCells [x]) rfl rfl ?k1 ?k2 ?k3 ?k4 ?k5 ?_)
        case k1 =>
          obtain ⟨U, hU, _, _, hUo⟩ := lit_wr w4 x
          rw [hU] at hUo
          exact hUo.cells rfl
        case k2 => exact wrsCells_one _
        case k3 => unfold maxLen; omega
        case k4 => omega
        case k5 => simp; omega
        intro v' w5 hown' hgrow _ _
        have HG5 := hideIt (grown_trans (World.grownBy_alloc w4 _ _) hgrow)
        have HO5 : Hid (w5.ownsRow w2.heap.size 48 2 v' (m + 1) (wrsCells (wrChosen (l.take (k + 1)) T))) := hideIt (by rw [HT.out, wrsCells_append]; simpa using hown')
        have HM5 : Hid (m + 1 = (wrChosen (l.take (k + 1)) T).length) := hideIt (by rw [HT.out, List.length_append, ← HM.out]; rfl)
        obtain ⟨a', cap', hv'⟩ := own_form hown'
        subst hv'
        clear hown' hgrow
        go_wp2
        refine ⟨⟨k + 1, a', m + 1, cap', by omega, by go_num, by omega, rfl, HM5.out, HO5.out, ?_⟩, by simp [intOf]; omega⟩
        exact HB4.out.grown HG5.out (by have := HB4.out.size; omega) (fun j hj => (HO4.out.lt j hj).1)
    · have ek : k = l.length := by omega
      have HR2 : Hid (wr.ownsRow w.heap.size 48 2 (.slice aa m ac) (wrChosen l T).length (wrsCells (wrChosen l T))) := hideIt (by
        have h := HR.out
        have hm := HM.out
        rw [ek, List.take_length] at h hm
        have := own_mono h hsz2
        rw [← hm]
        exact this)
      have HBE := hideIt (HB2.out.trans (HB.out.mono hsz2))
      clear HR HM
      go_wp2
      go_ret
      exact ⟨_, rfl, HR2.out, HBE.out⟩
end Go.Proofs.YtohlepbfjgehgaaGreatDoor
