/-
  What is proved here: the document's Make of certificates, over this program.
-/
import Derived.Test.YtpgahjnjkihmhaaDoorCH
import Derived.Test.YtpgahjnjkihmhaaDoorStepN
import Derived.Deep.RegionLaw
namespace Go.Proofs.YtpgahjnjkihmhaaDoor
open Go.RowKit Go.Extern.Stop Go.Stop Go.Extern

/-- the first n of a row of one's own -/
theorem own_take {w : World} {B e N cap b n : Nat} {X : List Int} (h : w.ownsRow B e 1 (.slice (some ⟨b, 0, none⟩) N cap) N (numCells X)) (hX : X.length = N) (hn : n ≤ N) : NumsIn w (B ≤ ·) (.slice (some ⟨b, 0, none⟩) n cap) (X.take n) := by
  have hl : (X.take n).length = n := by rw [List.length_take]; omega
  refine ⟨some ⟨b, 0, none⟩, cap, by rw [hl], (fun e => nomatch e), fun k x hx => ⟨b, 0, rfl, (h.lt b rfl).1, ?_⟩⟩
  have hk : k < n := by
    have := (List.getElem?_eq_some_iff.1 hx).1
    simp only [numCells, List.length_map, List.length_take] at this
    omega
  have hx2 : (numCells X)[k]? = some x := by
    simp only [numCells, List.map_take] at hx ⊢
    rw [List.getElem?_take_of_lt hk] at hx
    exact hx
  have := h.cells (g := b) rfl k x hx2
  rw [addr_add] at this
  exact this

/-- a Cert's room at q and a Step's behind it, written -/
theorem rooms_set (w : World) (q : Nat) (x y z u v X Y Z U V : Value) (c0 : w.cell? ⟨q, 0, none⟩ = some x) (c1 : w.cell? ⟨q, 1, none⟩ = some y) (c2 : w.cell? ⟨q, 2, none⟩ = some z) (s0 : w.cell? ⟨q + 1, 0, none⟩ = some u) (s1 : w.cell? ⟨q + 1, 1, none⟩ = some v) :
    ∃ W, W = ((((w.setCell ⟨q, 0, none⟩ X).setCell ⟨q, 1, none⟩ Y).setCell ⟨q, 2, none⟩ Z).setCell ⟨q + 1, 0, none⟩ U).setCell ⟨q + 1, 1, none⟩ V ∧ W.cell? ⟨q, 0, none⟩ = some X ∧ W.cell? ⟨q, 1, none⟩ = some Y ∧ W.cell? ⟨q, 2, none⟩ = some Z ∧ W.cell? ⟨q + 1, 0, none⟩ = some U ∧ W.cell? ⟨q + 1, 1, none⟩ = some V ∧ (∀ A : Nat → Prop, ¬ A q → ¬ A (q + 1) → Kept A w W) ∧ ∀ B w0, Below B w0 w → B ≤ q → Below B w0 W := by
  obtain ⟨W1, hW1, d0, d1, d2, hk1, hb1⟩ := room_set w q x y z X Y Z c0 c1 c2
  have t0 := (hk1 (· = q + 1) (by omega)).cell (a := ⟨q + 1, 0, none⟩) rfl s0
  have t1 := (hk1 (· = q + 1) (by omega)).cell (a := ⟨q + 1, 1, none⟩) rfl s1
  obtain ⟨W2, hW2, e0, e1, hk2, hb2⟩ := room2_set W1 (q + 1) u v U V t0 t1
  have hk := hk2 (· = q) (by omega)
  have hsz : w.heap.size ≤ W1.heap.size := (hb1 0 w (Below.refl _ _) (Nat.zero_le _)).size
  refine ⟨W2, by rw [hW2, hW1], hk.cell (a := ⟨q, 0, none⟩) rfl d0, hk.cell (a := ⟨q, 1, none⟩) rfl d1, hk.cell (a := ⟨q, 2, none⟩) rfl d2, e0, e1, fun A h1 h2 k hA hl => ?_, fun B w0 hb hq => hb2 B w0 (hb1 B w0 hb hq) (by omega)⟩
  rw [hk2 A h2 k hA (by omega), hk1 A h1 k hA hl]

set_option maxRecDepth 100000 in
set_option maxHeartbeats 16000000 in
theorem dcMake_few (w : World) (q : Nat) (O : Nat → Prop) (L : List (Int × Int)) (g d need : Int) (hs : DSSt w q O L) (hL : L.length ≤ 131072) (hok : ∀ d, ((-1 : Int), d) ∉ L) (hf : need < 1 ∨ ((whoTo L g d 10).length : Int) < need) :
    Calls Tryd.prog 11 #[.pointer (some ⟨q, 0, none⟩), .int .i64 g, .int .i64 d, .int .i64 need] w fun e w' => e = .returned (.tuple #[.agg #[.int .i64 0, .int .i64 0, .slice none 0 0], .int .i64 51, .agg #[.string ⟨#[109, 97, 107, 101]⟩, .int .i64 ((whoTo L g d 10).length : Int)]]) ∧ Below w.heap.size w w' := by
  have HS := hideIt hs
  have HL := hideIt (And.intro hL hok)
  obtain ⟨N, hN⟩ : ∃ N, (whoTo L g d 10).length = N := ⟨_, rfl⟩
  have hN10 : N ≤ 10 := by rw [← hN]; exact whoTo_le _ _ _ _
  have HN := hideIt hN
  rw [hN] at hf ⊢
  obtain ⟨W, hW, hwb, hws, c0, c1, c2, f0, f1, f2⟩ := room_new w 25 (.int .i64 0) (.int .i64 0) (.slice none 0 0)
  obtain ⟨V, hV, hvb, hvs, r0, r1, g0, g1⟩ := room2_new W 37 (.string ⟨#[]⟩) (.int .i64 0)
  rw [hws] at r0 r1 g0 g1
  clear hs hL hok hN
  go_enter Tryd.func11, Tryd.ntmps11
  go_wp2_with fail
  rw [← hW, ← hV]
  clear hW hV
  have hwv := hwb.trans (hvb.mono hwb.size)
  have HWV := hideIt hwv
  refine (dsWho_any V q O L g d (HS.out.kept (Kept.of_all hwv)) HL.out.1 HL.out.2).mono ?_
  rintro e w1 ⟨v, rfl, hr, hb⟩
  rw [HN.out] at hr
  have HB := hideIt (hwv.trans (hb.mono hwv.size))
  have hbv := hvb.trans (hb.mono hvb.size)
  have d0 := (hbv.cell (lt_of_cell c0)).trans c0
  have d1 := (hbv.cell (lt_of_cell c1)).trans c1
  have d2 := (hbv.cell (lt_of_cell c2)).trans c2
  have e0 := (hbv.frozen (p := ⟨w.heap.size, 0, none⟩) (lt_of_cell c0)).trans f0
  have e1 := (hbv.frozen (p := ⟨w.heap.size, 1, none⟩) (lt_of_cell c1)).trans f1
  have e2 := (hbv.frozen (p := ⟨w.heap.size, 2, none⟩) (lt_of_cell c2)).trans f2
  have s0 := (hb.cell (lt_of_cell r0)).trans r0
  have s1 := (hb.cell (lt_of_cell r1)).trans r1
  have z0 := (hb.frozen (p := ⟨w.heap.size + 1, 0, none⟩) (lt_of_cell r0)).trans g0
  have z1 := (hb.frozen (p := ⟨w.heap.size + 1, 1, none⟩) (lt_of_cell r1)).trans g1
  obtain ⟨a, cap, rfl⟩ := own_form hr
  clear hr hb hbv hwv hwb hvb hws hvs c0 c1 c2 f0 f1 f2 r0 r1 g0 g1
  have hcs : need < 1 ∨ (¬ need < 1 ∧ (N : Int) < need) := by omega
  clear hf
  rcases hcs with h1 | ⟨h1, h2⟩
  all_goals
    go_wp2
    obtain ⟨W3, hW3, x0, x1, x2, y0, y1, _, hb3⟩ := rooms_set w1 w.heap.size _ _ _ _ _ (.int .i64 0) (.int .i64 0) (.slice none 0 0) (.string ⟨#[109, 97, 107, 101]⟩) (.int .i64 (N : Int)) d0 d1 d2 s0 s1
    rw [← hW3]
    have HB3 := hideIt (hb3 _ _ HB.out (Nat.le_refl _))
    clear hW3 hb3 d0 d1 d2 e0 e1 e2 s0 s1 z0 z1
    refine bodyPost_ret (v := .tuple #[.agg #[.int .i64 0, .int .i64 0, .slice none 0 0], .int .i64 51, .agg #[.string ⟨#[109, 97, 107, 101]⟩, .int .i64 (N : Int)]]) (by simp [results, Tryd.results11, go_sem, x0, x1, x2, y0, y1]) rfl ?_
    exact ⟨rfl, HB3.out⟩

set_option maxRecDepth 100000 in
set_option maxHeartbeats 16000000 in
theorem dcMake_ok (w : World) (q : Nat) (O : Nat → Prop) (L : List (Int × Int)) (g d : Int) (n : Nat) (hs : DSSt w q O L) (hL : L.length ≤ 131072) (hok : ∀ d, ((-1 : Int), d) ∉ L) (h1 : 1 ≤ n) (h2 : n ≤ (whoTo L g d 10).length) :
    Calls Tryd.prog 11 #[.pointer (some ⟨q, 0, none⟩), .int .i64 g, .int .i64 d, .int .i64 n] w fun e w' => ∃ a cap, e = .returned (.tuple #[.agg #[.int .i64 g, .int .i64 d, .slice a n cap], .int .i64 0, .agg #[.string ⟨#[]⟩, .int .i64 0]]) ∧ NumsIn w' (w.heap.size ≤ ·) (.slice a n cap) ((whoTo L g d 10).take n) ∧ Below w.heap.size w w' := by
  have HS := hideIt hs
  have HL := hideIt (And.intro hL hok)
  obtain ⟨N, hN⟩ : ∃ N, (whoTo L g d 10).length = N := ⟨_, rfl⟩
  have hN10 : N ≤ 10 := by rw [← hN]; exact whoTo_le _ _ _ _
  have HN := hideIt hN
  rw [hN] at h2
  obtain ⟨T, hT⟩ : ∃ T, (whoTo L g d 10).take n = T := ⟨_, rfl⟩
  rw [hT]
  have HT := hideIt hT
  clear hT
  obtain ⟨W, hW, hwb, hws, c0, c1, c2, f0, f1, f2⟩ := room_new w 25 (.int .i64 0) (.int .i64 0) (.slice none 0 0)
  obtain ⟨V, hV, hvb, hvs, r0, r1, g0, g1⟩ := room2_new W 37 (.string ⟨#[]⟩) (.int .i64 0)
  rw [hws] at r0 r1 g0 g1
  clear hs hL hok hN
  go_enter Tryd.func11, Tryd.ntmps11
  go_wp2_with fail
  rw [← hW, ← hV]
  clear hW hV
  have hwv := hwb.trans (hvb.mono hwb.size)
  have HWV := hideIt hwv
  refine (dsWho_any V q O L g d (HS.out.kept (Kept.of_all hwv)) HL.out.1 HL.out.2).mono ?_
  rintro e w1 ⟨v, rfl, hr, hb⟩
  rw [HN.out] at hr
  have HB := hideIt (hwv.trans (hb.mono hwv.size))
  have hbv := hvb.trans (hb.mono hvb.size)
  have d0 := (hbv.cell (lt_of_cell c0)).trans c0
  have d1 := (hbv.cell (lt_of_cell c1)).trans c1
  have d2 := (hbv.cell (lt_of_cell c2)).trans c2
  have e0 := (hbv.frozen (p := ⟨w.heap.size, 0, none⟩) (lt_of_cell c0)).trans f0
  have e1 := (hbv.frozen (p := ⟨w.heap.size, 1, none⟩) (lt_of_cell c1)).trans f1
  have e2 := (hbv.frozen (p := ⟨w.heap.size, 2, none⟩) (lt_of_cell c2)).trans f2
  have s0 := (hb.cell (lt_of_cell r0)).trans r0
  have s1 := (hb.cell (lt_of_cell r1)).trans r1
  have z0 := (hb.frozen (p := ⟨w.heap.size + 1, 0, none⟩) (lt_of_cell r0)).trans g0
  have z1 := (hb.frozen (p := ⟨w.heap.size + 1, 1, none⟩) (lt_of_cell r1)).trans g1
  have hsz1 : w.heap.size + 2 ≤ w1.heap.size := by have := hb.size; omega
  obtain ⟨b, cap, hcap, rfl⟩ : ∃ b cap, N ≤ cap ∧ v = .slice (some ⟨b, 0, none⟩) N cap := by
    obtain ⟨_, h3⟩ := hr
    rcases h3 with ⟨_, h3⟩ | ⟨g', cap, cur, e, _, _, hle, _⟩
    · omega
    · exact ⟨g', cap, hle, e⟩
  have HR := hideIt hr
  clear hr hb hbv hwv hwb hvb hws hvs c0 c1 c2 f0 f1 f2 r0 r1 g0 g1
  obtain ⟨i0, hi, hi2⟩ := Option.map_eq_some_iff.1 infoI
  obtain ⟨hz0, hz1, hz2⟩ : i0.zero = some (.int .i64 0) ∧ i0.size = 1 ∧ i0.bytes = 8 := by
    simp only [Prod.mk.injEq] at hi2; exact hi2
  have HI := hideIt (And.intro hi (And.intro hz0 (And.intro hz1 hz2)))
  clear hi hi2 hz0 hz1 hz2
  have hal : Below w1.heap.size w1 (w1.alloc (.cells #[] 3)) := (Below.refl _ _).alloc (Nat.le_refl _) _
  have HAL := hideIt hal
  have HON := hideIt (World.ownsRow_made (base := w1.heap.size) (e := 3) (size := 1) w1 #[] 0 (Nat.le_refl _) (by decide) rfl)
  have hTl : T.length = n := by rw [← HT.out, List.length_take, HN.out]; omega
  have HUN : Hid (NumsIn (w1.alloc (.cells #[] 3)) (V.heap.size ≤ ·) (.slice (some ⟨b, 0, none⟩) n cap) T) := by rw [← HT.out]; exact RowIn.kept (own_take HR.out HN.out h2) (Kept.of_all hal)
  have HTL := hideIt hTl
  clear hal hTl HR HT
  go_wp2_with (at_builtin; refine wpList_append_nums rfl _ _ 23 rfl w1.heap.size 3 i0 (.int .i64 0) Tryd.underlying23 HI.out.1 HI.out.2.1 HI.out.2.2.1 HI.out.2.2.2 rfl _ 0 [] rfl HON.out _ _ T rfl HUN.out (by rw [HTL.out]; omega) (by simp) ?_)
  intro v' w2 hown hgrow _
  rw [HTL.out] at hown
  have HO2 := hideIt hown
  obtain ⟨a2, cap2, rfl⟩ := own_form hown
  have hb2 : Below w1.heap.size w1 w2 := HAL.out.grown hgrow (by simp) (fun k hk => by simp [Value.ownBlock] at hk; omega)
  have HB2 := hideIt (HB.out.trans (hb2.mono HB.out.size))
  replace e0 := (hb2.frozen (p := ⟨w.heap.size, 0, none⟩) (lt_of_cell d0)).trans e0
  replace e1 := (hb2.frozen (p := ⟨w.heap.size, 1, none⟩) (lt_of_cell d1)).trans e1
  replace e2 := (hb2.frozen (p := ⟨w.heap.size, 2, none⟩) (lt_of_cell d2)).trans e2
  replace z0 := (hb2.frozen (p := ⟨w.heap.size + 1, 0, none⟩) (lt_of_cell s0)).trans z0
  replace z1 := (hb2.frozen (p := ⟨w.heap.size + 1, 1, none⟩) (lt_of_cell s1)).trans z1
  replace d0 := (hb2.cell (lt_of_cell d0)).trans d0
  replace d1 := (hb2.cell (lt_of_cell d1)).trans d1
  replace d2 := (hb2.cell (lt_of_cell d2)).trans d2
  replace s0 := (hb2.cell (lt_of_cell s0)).trans s0
  replace s1 := (hb2.cell (lt_of_cell s1)).trans s1
  clear hown hgrow hb2 HAL HUN HON HB
  go_wp2
  obtain ⟨W3, hW3, x0, x1, x2, y0, y1, hk3, hb3⟩ := rooms_set w2 w.heap.size _ _ _ _ _ (.int .i64 g) (.int .i64 d) (.slice a2 n cap2) (.string ⟨#[]⟩) (.int .i64 0) d0 d1 d2 s0 s1
  rw [← hW3]
  have HB3 := hideIt (hb3 _ _ HB2.out (Nat.le_refl _))
  have HK3 := hideIt hk3
  clear hW3 hb3 hk3 d0 d1 d2 e0 e1 e2 s0 s1 z0 z1
  refine bodyPost_ret (v := .tuple #[.agg #[.int .i64 g, .int .i64 d, .slice a2 n cap2], .int .i64 0, .agg #[.string ⟨#[]⟩, .int .i64 0]]) (by simp [results, Tryd.results11, go_sem, x0, x1, x2, y0, y1]) rfl ?_
  refine ⟨a2, cap2, rfl, ?_, HB3.out⟩
  refine RowIn.mono (A := fun k => w1.heap.size ≤ k) (RowIn.kept (RowIn.of_own (B := w1.heap.size) (e := 3) (size := 1) (A := fun k => w1.heap.size ≤ k) ?_ (fun _ h => h)) (HK3.out _ (by omega) (by omega))) (fun k hk _ => by omega)
  rw [HTL.out]
  exact HO2.out
end Go.Proofs.YtpgahjnjkihmhaaDoor
