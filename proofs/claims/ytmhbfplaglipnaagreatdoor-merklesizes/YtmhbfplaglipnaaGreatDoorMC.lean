/-
  What is proved here: entries in memory; merkle's leafDigest, node and rootDigest, wrong and right, over this program.
-/
import Derived.Test.YtmhbfplaglipnaaGreatDoorMB
namespace Go.Proofs.YtmhbfplaglipnaaGreatDoor
open Go.RowKit Go.Extern.Stop Go.Stop Go.Extern

def entCells (e : Ent) : List Value := [.string ⟨e.1.toArray⟩, .string ⟨e.2.1.toArray⟩, .int .i64 e.2.2]
def entV (e : Ent) : Value := .agg #[.string ⟨e.1.toArray⟩, .string ⟨e.2.1.toArray⟩, .int .i64 e.2.2]
def entsCells (l : List Ent) : List Value := l.flatMap entCells
theorem entsCells_len (l : List Ent) : (entsCells l).length = l.length * 3 := by
  induction l with
  | nil => rfl
  | cons x r ih => simp only [entsCells, List.flatMap_cons, List.length_append] at ih ⊢; rw [ih]; simp [entCells]; omega
theorem entsCells_at {l : List Ent} {k : Nat} {e : Ent} (h : l[k]? = some e) : (entsCells l)[k * 3]? = some (.string ⟨e.1.toArray⟩) ∧ (entsCells l)[k * 3 + 1]? = some (.string ⟨e.2.1.toArray⟩) ∧ (entsCells l)[k * 3 + 2]? = some (.int .i64 e.2.2) := by
  induction l generalizing k with
  | nil => simp at h
  | cons x r ih =>
    cases k with
    | zero => simp at h; subst h; exact ⟨rfl, rfl, rfl⟩
    | succ k =>
      have := ih (k := k) (by simpa using h)
      have e1 : ∀ j, (entsCells (x :: r))[(k + 1) * 3 + j]? = (entsCells r)[k * 3 + j]? := fun j => by
        show (entCells x ++ entsCells r)[(k + 1) * 3 + j]? = _
        rw [List.getElem?_append_right (by simp [entCells]; omega)]
        congr 1; simp [entCells]; omega
      exact ⟨by rw [show (k + 1) * 3 = (k + 1) * 3 + 0 by omega, e1]; exact this.1, by rw [e1]; exact this.2.1, by rw [e1]; exact this.2.2⟩
theorem entsCells_append (l r : List Ent) : entsCells (l ++ r) = entsCells l ++ entsCells r := List.flatMap_append ..
theorem entsCells_one (l : List Ent) : ∀ u ∈ entsCells l, u.oneCell' = true := by
  intro u hu
  obtain ⟨x, _, hx⟩ := List.mem_flatMap.1 hu
  simp [entCells] at hx
  rcases hx with rfl | rfl | rfl <;> rfl
/-- a slice of entries -/
def EntsIn (w : World) (A : Nat → Prop) (v : Value) (l : List Ent) : Prop := RowIn w A v l.length (entsCells l)
theorem EntsIn.form {w : World} {A : Nat → Prop} {v : Value} {l : List Ent} (h : EntsIn w A v l) : ∃ a cap, v = .slice a l.length cap := by
  obtain ⟨a, cap, h1, _⟩ := h
  exact ⟨a, cap, h1⟩
theorem EntsIn.at {w : World} {A : Nat → Prop} {a : Option Addr} {n cap : Nat} {l : List Ent} (h : EntsIn w A (.slice a n cap) l) {k : Nat} {e : Ent} (hs : l[k]? = some e) :
    ∃ b off, a = some ⟨b, off, none⟩ ∧ A b ∧ w.cell? ⟨b, off + k * 3, none⟩ = some (.string ⟨e.1.toArray⟩) ∧ w.cell? ⟨b, off + k * 3 + 1, none⟩ = some (.string ⟨e.2.1.toArray⟩) ∧ w.cell? ⟨b, off + k * 3 + 2, none⟩ = some (.int .i64 e.2.2) := by
  obtain ⟨a', cap', e1, _, h2⟩ := h
  simp only [Value.slice.injEq] at e1
  obtain ⟨rfl, _, rfl⟩ := e1
  obtain ⟨c0, c1, c2⟩ := entsCells_at hs
  obtain ⟨b, off, r1, r2, r3⟩ := h2 _ _ c0
  obtain ⟨b', off', s1, s2, s3⟩ := h2 _ _ c1
  obtain ⟨b'', off'', t1, t2, t3⟩ := h2 _ _ c2
  rw [r1] at s1 t1
  cases s1; cases t1
  exact ⟨b, off, r1, r2, r3, by rw [Nat.add_assoc]; exact s3, by rw [Nat.add_assoc]; exact t3⟩

/-- what asking for the text s comes to -/
def Asked (w : World) (p : Nat) (O : Nat → Prop) (T : List (List UInt8)) (s : List UInt8) (e : Ending) (w' : World) : Prop :=
  ∃ (d : Nat) (O' : Nat → Prop), e = .returned (.tuple #[.int .i64 d, .nilIface]) ∧ (comes T s)[d]? = some s ∧ BookSt w' p O' (comes T s) ∧ Turn O w w' ∧ ∀ k, O' k → (O k ∨ w.heap.size ≤ k) ∧ k < w'.heap.size
theorem Asked.back {w w1 w' : World} {p : Nat} {O : Nat → Prop} {T : List (List UInt8)} {s : List UInt8} {e : Ending} (hb : Below w.heap.size w w1) (h : Asked w1 p O T s e w') : Asked w p O T s e w' := by
  obtain ⟨d, O', h1, h2, h3, h4, h5⟩ := h
  have hsz := hb.size
  exact ⟨d, O', h1, h2, h3, (Turn.of_below hb).trans h4 (fun k hk => Or.inl hk), fun k hk => ⟨(h5 k hk).1.imp id (fun h => by omega), (h5 k hk).2⟩⟩
theorem Asked.form {w w' : World} {p : Nat} {O : Nat → Prop} {T : List (List UInt8)} {s : List UInt8} {e : Ending} (h : Asked w p O T s e w') : ∃ d : Nat, e = .returned (.tuple #[.int .i64 d, .nilIface]) := by
  obtain ⟨d, _, h, _⟩ := h; exact ⟨d, h⟩

/-- a room of three cells -/
theorem room3 (w : World) (t : TypeId) (x y z : Value) : ∃ W, W = w.alloc (.cells #[x, y, z] t) ∧ Below w.heap.size w W ∧ W.heap.size = w.heap.size + 1 ∧ W.cell? ⟨w.heap.size, 0, none⟩ = some x ∧ W.cell? ⟨w.heap.size, 1, none⟩ = some y ∧ W.cell? ⟨w.heap.size, 2, none⟩ = some z :=
  ⟨_, rfl, (Below.refl _ _).alloc (Nat.le_refl _) _, by simp, by rw [World.cell?_alloc_at _ _ _ _ rfl]; rfl, by rw [World.cell?_alloc_at _ _ _ _ rfl]; rfl, by rw [World.cell?_alloc_at _ _ _ _ rfl]; rfl⟩

theorem mwrong_any (w : World) (n : Int) (hn : (n == 0) = false) :
    Calls Tryz.prog 23 #[.int .i64 n] w fun e w' => ∃ er, e = .returned er ∧ One w' (fun k => k = w.heap.size) er n ⟨#[109, 101, 114, 107, 108, 101]⟩ 0 ∧ Below w.heap.size w w' := by
  go_enter Tryz.func23, Tryz.ntmps23
  go_wp2_with fail
  refine (Of_err n hn w).mono ?_
  rintro e w1 ⟨rfl, rfl⟩
  go_wp2_with fail
  refine (Wrap_some 50 (.int .i64 n) _ _ _).mono ?_
  rintro e w3 ⟨rfl, rfl⟩
  go_wp2
  go_ret
  refine ⟨_, rfl, ⟨w1.heap.size, rfl, rfl, ?_, ?_, ?_⟩, (Below.refl _ _).alloc (Nat.le_refl _) _⟩
  · rw [World.cell?_alloc_at _ _ _ _ rfl]; rfl
  · rw [World.cell?_alloc_at _ _ _ _ rfl]; rfl
  · rw [World.cell?_alloc_at _ _ _ _ rfl]; rfl

theorem nums_none (w : World) (A : Nat → Prop) : NumsIn w A (.slice none 0 0) [] := ⟨none, 0, rfl, fun _ => ⟨rfl, rfl, rfl⟩, fun k x hx => by simp [numCells] at hx⟩
theorem nums_two (w : World) (t : TypeId) (x y : Int) : NumsIn (w.alloc (.cells #[.int .i64 x, .int .i64 y] t)) (fun k => k = w.heap.size) (.slice (some ⟨w.heap.size, 0, none⟩) 2 2) [x, y] := by
  refine ⟨_, _, rfl, (fun e => nomatch e), fun k z hz => ⟨w.heap.size, 0, rfl, rfl, ?_⟩⟩
  match k, hz with
  | 0, hz => simp [numCells] at hz; subst hz; rw [World.cell?_alloc_at _ _ _ _ rfl]; rfl
  | 1, hz => simp [numCells] at hz; subst hz; rw [World.cell?_alloc_at _ _ _ _ rfl]; rfl
  | k + 2, hz => simp [numCells] at hz

/-- begun, where its world lies behind another one in which a Book lies, and a cell -/
theorem begun_book {w W : World} {p : Nat} {O : Nat → Prop} {T : List (List UInt8)} (h : BookSt w p O T) (hW : Below w.heap.size w W) (s : List UInt8) (A : Nat → Prop) (v : Value) (l : List Int) (hv : NumsIn W A v l) (hs : s.length ≤ 100) (hl : l.length ≤ 100) :
    Calls Tryz.prog 48 #[.string ⟨s.toArray⟩, v] W fun e w' => ∃ q, e = .returned (.pointer (some ⟨q, 0, none⟩)) ∧ W.heap.size ≤ q ∧ Hid (WSt w' q (fun k => k ≠ q) (textB s ++ l.flatMap numB, false)) ∧ Hid (Below W.heap.size W w') ∧ Hid (Below w.heap.size w w') ∧ Hid (BookSt w' p O T) := by
  refine (begun_any W s A v l hv hs hl).mono ?_
  rintro e w' ⟨q, h1, h2, h3, h4⟩
  have hb := hW.trans (h4.mono hW.size)
  exact ⟨q, h1, h2, h3, h4, hb, h.kept (Kept.of_all hb)⟩
theorem ask_back {w w1 : World} {p q : Nat} {O A : Nat → Prop} {T : List (List UInt8)} {s : List UInt8} (h : BookSt w1 p O T) (hb : Below w.heap.size w w1) (hw : WSt w1 q A (s, false)) (hs : s.length ≤ 65536) (hl : T.length < 65536) :
    Calls Tryz.prog 47 #[.pointer (some ⟨p, 0, none⟩), .pointer (some ⟨q, 0, none⟩)] w1 (fun e w' => (∃ d : Nat, e = .returned (.tuple #[.int .i64 d, .nilIface])) ∧ Hid (Asked w p O T s e w')) :=
  (ask_any w1 p q O A T s h hw hs hl).mono fun e w' h => ⟨by obtain ⟨d, _, h, _⟩ := h; exact ⟨d, h⟩, Asked.back hb h⟩

set_option maxRecDepth 100000 in
set_option maxHeartbeats 8000000 in
/-- a node's digest -/
theorem mnode_any (w : World) (p q : Nat) (O : Nat → Prop) (T : List (List UInt8)) (a b : Int) (h : BookSt w p O T) (hc : w.cell? ⟨q, 0, none⟩ = some (.pointer (some ⟨p, 0, none⟩))) (hl : T.length < 65536) :
    Calls Tryz.prog 74 #[.int .i64 a, .int .i64 b, .pointer (some ⟨q, 0, none⟩)] w (Asked w p O T (nodeT a b)) := by
  have H := hideIt h
  have HL := hideIt hl
  have hq := lt_of_cell hc
  have HC : Hid (∀ w', Below w.heap.size w w' → w'.cell? ⟨q, 0, none⟩ = some (.pointer (some ⟨p, 0, none⟩))) := hideIt (fun w' hb => (hb.cell hq).trans hc)
  have hc1 : (w.alloc (.cells #[.int .i64 a, .int .i64 b] 3)).cell? ⟨q, 0, none⟩ = some (.pointer (some ⟨p, 0, none⟩)) := HC.out _ ((Below.refl _ _).alloc (Nat.le_refl _) _)
  have HBD : Hid (Below w.heap.size w (w.alloc (.cells #[.int .i64 a, .int .i64 b] 3)).drew) := hideIt (((Below.refl _ _).alloc (Nat.le_refl _) _).drew)
  have HND : Hid (NumsIn (w.alloc (.cells #[.int .i64 a, .int .i64 b] 3)).drew (fun k => k = w.heap.size) (.slice (some ⟨w.heap.size, 0, none⟩) 2 2) [a, b]) := hideIt (RowIn.kept (nums_two w 3 a b) (fun _ _ _ => rfl))
  have HN : Hid (textB sNode ++ [a, b].flatMap numB = nodeT a b) := hideIt (by simp [nodeT, List.flatMap_cons])
  clear h hl
  go_enter Tryz.func74, Tryz.ntmps74
  go_wp2_with fail
  go_region_with (first
    | (go_at_call 48
       refine (begun_book H.out HBD.out sNode _ _ [a, b] HND.out (by decide) (by simp)).mono ?_
       rintro e w1 ⟨qq, rfl, hqq, hst, _, hb, hbk⟩
       rw [HN.out] at hst
       have hc2 := HC.out w1 hb.out)
    | (go_at_call 47
       refine (ask_back hbk.out hb.out hst.out (Nat.le_trans (nodeT_len a b) (by decide)) HL.out).mono ?_
       rintro e w2 ⟨⟨d, rfl⟩, hA⟩))
  all_goals
    go_wp2
    go_ret2
    exact hA.out

set_option maxRecDepth 100000 in
set_option maxHeartbeats 8000000 in
/-- the root's digest -/
theorem mrootD_any (w : World) (p : Nat) (O : Nat → Prop) (T : List (List UInt8)) (a b : Int) (h : BookSt w p O T) (hl : T.length < 65536) :
    Calls Tryz.prog 25 #[.pointer (some ⟨p, 0, none⟩), .int .i64 a, .int .i64 b] w (Asked w p O T (rootT a b)) := by
  have H := hideIt h
  have HL := hideIt hl
  have HBD : Hid (Below w.heap.size w (w.alloc (.cells #[.int .i64 a, .int .i64 b] 3))) := hideIt (((Below.refl _ _).alloc (Nat.le_refl _) _))
  have HN : Hid (textB sRoot ++ [a, b].flatMap numB = rootT a b) := hideIt (by simp [rootT, List.flatMap_cons])
  clear h hl
  go_enter Tryz.func25, Tryz.ntmps25
  go_wp2_with fail
  refine (begun_book H.out HBD.out sRoot _ _ [a, b] (nums_two w 3 a b) (by decide) (by simp)).mono ?_
  rintro e w1 ⟨qq, rfl, hqq, hst, _, hb, hbk⟩
  rw [HN.out] at hst
  go_wp2_with fail
  refine (ask_back hbk.out hb.out hst.out (Nat.le_trans (rootT_len a b) (by decide)) HL.out).mono ?_
  rintro e w2 ⟨⟨d, rfl⟩, hA⟩
  go_wp2
  go_ret2
  exact hA.out

theorem grown_cell {w w' : World} {p : Nat} (h : w.grownBy w' (some p)) {a : Addr} {v : Value} (hc : w.cell? a = some v) (hne : a.block ≠ p) : w'.cell? a = some v :=
  (World.cell?_of_block (h.block a.block (lt_of_cell hc) (fun e => hne (by injection e)))).trans hc
/-- a text that was just made bytes of, written -/
theorem wText_conv (w : World) (q cap : Nat) (bs s : List UInt8) (hw : WSt w q (fun k => k ≠ q) (bs, false)) (hs : s.length ≤ 1000) (hl : bs.length ≤ 100000) :
    Calls Tryz.prog 70 #[.pointer (some ⟨q, 0, none⟩), .slice (some ⟨w.heap.size, 0, none⟩) s.length cap] (Lib.bytesWorld w 5 ⟨s.toArray⟩) fun e w' => e = .returned (.tuple #[]) ∧ Hid (WSt w' q (fun k => k ≠ q) (bs ++ textB s, false)) ∧ Hid (w.grownBy w' (some q)) := by
  obtain ⟨hc1, hc2⟩ := conv_bytes w s cap
  have hq := hw.lt
  have hsz := hc2.size
  refine (wText_any q _ _ (bs, false) _ s _ (kept_below hw hc2) hc1 (by unfold maxLen; omega) (fun k hk => by omega) (fun h => h rfl) (by simp only; omega)).mono ?_
  rw [put_text bs s (by omega)]
  rintro e w3 ⟨rfl, hw3, hg3⟩
  exact ⟨rfl, hw3, grown_trans (grown_below hc2 _) hg3⟩

set_option maxRecDepth 100000 in
set_option maxHeartbeats 8000000 in
/-- a leaf's digest -/
theorem mleafD_any (w : World) (p : Nat) (O : Nat → Prop) (T : List (List UInt8)) (x : Ent) (h : BookSt w p O T) (hx : okE x) (hl : T.length < 65536) :
    Calls Tryz.prog 45 #[.pointer (some ⟨p, 0, none⟩), entV x] w (Asked w p O T (leafT x)) := by
  have H := hideIt h
  have HX := hideIt hx
  have HL := hideIt hl
  clear h hl hx
  have HN : Hid (textB sLeaf ++ [].flatMap numB ++ textB x.1 ++ textB x.2.1 ++ numB x.2.2 = leafT x) := hideIt (by simp [leafT])
  have hcv := fun (w : World) (s : List UInt8) => Lib.run_convert_string_bytes (P := Tryz.prog) w 9 75 5 ⟨s.toArray⟩ Tryz.underlying9 Tryz.underlying75 Tryz.underlying5
  obtain ⟨x1, x2, x3⟩ := x
  have HX1 : Hid (x1.length ≤ 16 ∧ x2.length ≤ 64) := hideIt ⟨HX.out.1, HX.out.2.1⟩
  unfold entV
  simp only at HN ⊢
  obtain ⟨W, hW, hwb, hws, c0, c1, c2⟩ := room3 w 42 (.string ⟨x1.toArray⟩) (.string ⟨x2.toArray⟩) (.int .i64 x3)
  have HWB := hideIt hwb
  have HWS := hideIt hws
  have hne : w.heap.size < W.heap.size := by omega
  clear hwb hws
  go_enter Tryz.func45, Tryz.ntmps45
  go_wp2_with fail
  rw [← hW]
  clear hW
  refine (begun_book H.out HWB.out sLeaf _ _ [] (nums_none W (fun _ => True)) (by decide) (by simp)).mono ?_
  rintro e w1 ⟨q, rfl, hq, hst, hbW, hb, hbk⟩
  have hqne : w.heap.size ≠ q := by omega
  have hwq : w.heap.size ≤ q := by omega
  have d0 := (hbW.out.cell (lt_of_cell c0)).trans c0
  have d1 := (hbW.out.cell (lt_of_cell c1)).trans c1
  have d2 := (hbW.out.cell (lt_of_cell c2)).trans c2
  clear c0 c1 c2 hbW hq hne hbk
  go_wp2_with fail
  refine (wText_conv w1 q _ _ x1 hst.out (by have := HX1.out; omega) (by simp [textB_length, sLeaf])).mono ?_
  rintro e w2 ⟨rfl, hst2, hg2⟩
  have e0 := grown_cell hg2.out d0 hqne
  have e1 := grown_cell hg2.out d1 hqne
  have e2 := grown_cell hg2.out d2 hqne
  have hb2 := hideIt (hb.out.grown hg2.out hb.out.size (fun k hk => by injection hk with hk; omega))
  clear d0 d1 d2 hg2 hst hb
  go_wp2_with fail
  refine (wText_conv w2 q _ _ x2 hst2.out (by have := HX1.out; omega) (by simp [textB_length, sLeaf]; have := HX1.out; omega)).mono ?_
  rintro e w3 ⟨rfl, hst3, hg3⟩
  have d0 := grown_cell hg3.out e0 hqne
  have d1 := grown_cell hg3.out e1 hqne
  have d2 := grown_cell hg3.out e2 hqne
  have hb3 := hideIt (hb2.out.grown hg3.out hb2.out.size (fun k hk => by injection hk with hk; omega))
  clear e0 e1 e2 hg3 hst2 hb2 hcv
  go_wp2_with fail
  refine (wNum_any q _ _ x3 w3 hst3.out (fun k hk => by have := hst3.out.lt; omega) (fun h => h rfl) (by simp [textB_length, sLeaf]; have := HX1.out; omega)).mono ?_
  rw [put_num, HN.out]
  rintro e w4 ⟨rfl, hw4, hg4⟩
  have hb4 := hideIt (hb3.out.grown hg4 hb3.out.size (fun k hk => by injection hk with hk; omega))
  have hst4 := hideIt hw4
  clear d0 d1 d2 hg4 hst3 hb3 hw4
  go_wp2_with fail
  refine (ask_back (H.out.kept (Kept.of_all hb4.out)) hb4.out hst4.out (Nat.le_trans (leafT_len HX.out) (by decide)) HL.out).mono ?_
  rintro e w5 ⟨⟨d, rfl⟩, hA⟩
  go_wp2
  go_ret2
  exact hA.out
end Go.Proofs.YtmhbfplaglipnaaGreatDoor
