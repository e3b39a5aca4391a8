/-
  What is proved here: all keys of a transaction, rising, each once; over this program.
-/
import Derived.Test.YtohlepbfjgehgaaGreatDoorTC
import Derived.Deep.RegionWith
namespace Go.Proofs.YtohlepbfjgehgaaGreatDoor
open Go.RowKit Go.Extern.Stop Go.Stop Go.Extern Go.Sort

def txK (rs : List Rd) (ws : List Wr) : List (List UInt8) := risen (rs.map (·.1) ++ ws.map (·.1))
theorem txK_mem (rs : List Rd) (ws : List Wr) (k : List UInt8) : k ∈ txK rs ws ↔ (∃ x ∈ rs, x.1 = k) ∨ (∃ x ∈ ws, x.1 = k) := by
  unfold txK; rw [risen_mem, List.mem_append, List.mem_map, List.mem_map]
theorem txK_rise (rs : List Rd) (ws : List Wr) : (txK rs ws).Pairwise kLt := risen_rise _
theorem txK_len (rs : List Rd) (ws : List Wr) : (txK rs ws).length ≤ rs.length + ws.length := by
  have := risen_len (rs.map (·.1) ++ ws.map (·.1))
  unfold txK; simpa using this
theorem SIn.of_own {w : World} {B n : Nat} {v : Value} {T : List (List UInt8)} (h : w.ownsRow B 9 1 v n (keyCells T)) (hn : n = T.length) : SIn w (fun _ => True) v T := by
  subst hn
  exact RowIn.of_own h (fun _ _ => trivial)
set_option maxRecDepth 100000 in
set_option maxHeartbeats 16000000 in
theorem txKeys_any (w : World) (A : Nat → Prop) (c n : Int) (rv wv : Value) (rs : List Rd) (ws : List Wr) (hr : RdsIn w A rv rs) (hw : WrsIn w A wv ws) (hrl : rs.length ≤ 10000) (hwl : ws.length ≤ 10000) :
    Calls Tryz.prog 15 #[.agg #[.int .i64 c, .int .i64 n, rv, wv]] w fun e w' => ∃ z, e = .returned z ∧ w'.ownsRow w.heap.size 9 1 z (txK rs ws).length (keyCells (txK rs ws)) ∧ Below w.heap.size w w' := by
  obtain ⟨i0, hi, hi2⟩ := Option.map_eq_some_iff.1 infoStr
  obtain ⟨hz0, hz1, hz2⟩ : i0.zero = some (.string ⟨#[]⟩) ∧ i0.size = 1 ∧ i0.bytes = 16 := by
    simp only [Prod.mk.injEq] at hi2; exact hi2
  have HI := hideIt (And.intro hi (And.intro hz0 (And.intro hz1 hz2)))
  have HRV : Hid (RdsIn w (· < w.heap.size) rv rs) := RowIn.mono (A' := (· < w.heap.size)) hr (fun _ _ h => h)
  have HWV : Hid (WrsIn w (· < w.heap.size) wv ws) := RowIn.mono (A' := (· < w.heap.size)) hw (fun _ _ h => h)
  obtain ⟨ar, cr, rfl⟩ := hr.form
  obtain ⟨aw, cw, rfl⟩ := hw.form
  obtain ⟨W, hW, hwb, hws, c0, c1, c2, c3⟩ := room4t w 25 (.int .i64 c) (.int .i64 n) (.slice ar rs.length cr) (.slice aw ws.length cw)
  have HC : Hid (∀ X, Below W.heap.size W X → X.cell? ⟨w.heap.size, 2, none⟩ = some (.slice ar rs.length cr) ∧ X.cell? ⟨w.heap.size, 3, none⟩ = some (.slice aw ws.length cw) ∧ RdsIn X (· < w.heap.size) (.slice ar rs.length cr) rs ∧ WrsIn X (· < w.heap.size) (.slice aw ws.length cw) ws) := hideIt fun X hX =>
    have hk := hwb.trans (hX.mono hwb.size)
    ⟨(hX.cell (lt_of_cell c2)).trans c2, (hX.cell (lt_of_cell c3)).trans c3, RowIn.kept HRV.out (Kept.of_below hk (fun _ h _ => h)), RowIn.kept HWV.out (Kept.of_below hk (fun _ h _ => h))⟩
  have HWB := hideIt hwb
  have HLR : Hid (rs.length ≤ 10000 ∧ ws.length ≤ 10000) := hideIt ⟨hrl, hwl⟩
  clear hi hi2 hz0 hz1 hz2 hr hw hws hwb c0 c1 hrl hwl HRV HWV c2 c3
  go_enter Tryz.func15, Tryz.ntmps15
  go_wp2_with fail
  rw [← hW]
  clear hW
  have HBD : Hid (Below W.heap.size W W.drew) := hideIt (below_drew W)
  obtain ⟨c2, c3, _, _⟩ := HC.out W (Below.refl _ _)
  go_region_law (first
    | (go_simp; go_at_call 51; have hh := HBW.out; refine (txkoR_any _ _ _ rs (HC.out _ hh).2.2.1 (by have := HLR.out; omega)).mono ?_; rintro e wx ⟨zr, rfl, hor, hbr⟩; dsimp only
       obtain ⟨azr, czr, rfl⟩ := own_form hor
       have HBX := hideIt (hh.trans (hbr.mono hh.size))
       have HOZ : Hid (wx.ownsRow W.heap.size 9 1 (.slice azr rs.length czr) rs.length (keyCells (rs.map (·.1)))) := hideIt (own_mono hor hh.size)
       have HSX : Hid (SIn wx (fun _ => True) (.slice azw ws.length czw) (ws.map (·.1))) := hideIt (RowIn.kept HOW.out (Kept.of_all hbr))
       clear hor hbr)
    | (go_simp; go_at_call 52; have hh := HBR.out; refine (txkoW_any _ _ _ ws (HC.out _ hh).2.2.2 (by have := HLR.out; omega)).mono ?_; rintro e wx ⟨zw, rfl, how, hbw⟩; dsimp only
       obtain ⟨azw, czw, rfl⟩ := own_form how
       have HBX := hideIt (hh.trans (hbw.mono hh.size))
       have HOZ : Hid (wx.ownsRow W.heap.size 9 1 (.slice azr rs.length czr) rs.length (keyCells (rs.map (·.1)))) := hideIt (ownsRow_of_block HOR.out (fun g hg => hbw.block g (ownsRow_lt HOR.out hg)))
       have HSX : Hid (SIn wx (fun _ => True) (.slice azw ws.length czw) (ws.map (·.1))) := hideIt (SIn.of_own how (by simp))
       clear how hbw)
    | (go_simp; go_at_call 51; refine (txkoR_any _ _ _ rs (HC.out _ HBD.out).2.2.1 (by have := HLR.out; omega)).mono ?_; rintro e wr ⟨zr, rfl, hor, hbr⟩; dsimp only
       obtain ⟨azr, czr, rfl⟩ := own_form hor
       have HBR := hideIt (HBD.out.trans (hbr.mono HBD.out.size))
       have HOR : Hid (wr.ownsRow W.heap.size 9 1 (.slice azr rs.length czr) rs.length (keyCells (rs.map (·.1)))) := hideIt hor
       obtain ⟨d2, d3, _, _⟩ := HC.out _ HBR.out
       clear hor hbr)
    | (go_simp; go_at_call 52; refine (txkoW_any _ _ _ ws (HC.out _ HBD.out).2.2.2 (by have := HLR.out; omega)).mono ?_; rintro e wr ⟨zw, rfl, how, hbw⟩; dsimp only
       obtain ⟨azw, czw, rfl⟩ := own_form how
       have HBW := hideIt (HBD.out.trans (hbw.mono HBD.out.size))
       have HOW : Hid (SIn wr (fun _ => True) (.slice azw ws.length czw) (ws.map (·.1))) := hideIt (SIn.of_own how (by simp))
       obtain ⟨d2, d3, _, _⟩ := HC.out _ HBW.out
       clear how hbw)
    | (refine step_append_strs rfl (.tmp 5) (.tmp 8) 43 rfl W.heap.size 9 i0 (.string ⟨#[]⟩) Tryz.underlying43 HI.out.1 HI.out.2.1 HI.out.2.2.1 HI.out.2.2.2 rfl (.slice azr rs.length czr) rs.length (keyCells (rs.map (·.1))) (by simp [Act.eval]) HOZ.out (fun _ => True) (.slice azw ws.length czw) (ws.map (·.1)) (by simp [Act.eval]) HSX.out (by simp; have := HLR.out; omega) HBX.out.size ?_; intro v5 w5 k1 k2 k3
       rw [List.length_map] at k1
       obtain ⟨a5, c5, rfl⟩ := own_form k1
       have HO5 : Hid (w5.ownsRow W.heap.size 9 1 (.slice a5 (rs.length + ws.length) c5) (rs.map (·.1) ++ ws.map (·.1)).length (keyCells (rs.map (·.1) ++ ws.map (·.1)))) := hideIt (by simpa [keyCells] using k1)
       have HB5 : Hid (Below W.heap.size W w5) := hideIt (HBX.out.grown k2 HBX.out.size (fun j hj => (HOZ.out.lt j hj).1))
       clear k1 k2 k3)
    | (go_simp; go_at_call 50; refine (txroS_any _ W.heap.size _ _ HO5.out HB5.out.size (by simp; have := HLR.out; omega)).mono ?_; rintro e w6 ⟨z6, rfl, ho6, hg6⟩; dsimp only
       have HO6 := hideIt ho6
       have HB6 : Hid (Below W.heap.size W w6) := hideIt (HB5.out.grown hg6 HB5.out.size (fun j hj => (HO5.out.lt j hj).1))
       clear ho6 hg6))
  all_goals
    go_wp2
    go_ret
    exact ⟨_, rfl, own_mono HO6.out HWB.out.size, HWB.out.trans (HB6.out.mono HWB.out.size)⟩
end Go.Proofs.YtohlepbfjgehgaaGreatDoor
