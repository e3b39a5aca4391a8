/-
  What is proved here: the head of cohortlaw07, great; over this program.
-/
import Derived.Test.YtddmjbmfkdhhgaaDoorEI
namespace Go.Proofs.YtddmjbmfkdhhgaaDoor
open Go.RowKit Go.Extern.Stop Go.Stop Go.Extern

/-- a world behind w0, with a Store -/
structure Ss (w0 w : World) (p : Nat) (O : Nat → Prop) (l : List Ent) : Prop where
  env : Env w0 w
  sto : Sto w p O l
  low : ∀ k, O k → w0.heap.size ≤ k
theorem Ss.next {w0 w w' : World} {p : Nat} {O : Nat → Prop} {l : List Ent} (h : Ss w0 w p O l) (hb : Below w.heap.size w w') : Ss w0 w' p O l := ⟨h.env.next hb, h.sto.next hb, h.low⟩
theorem Ss.move {w0 w w' : World} {p : Nat} {O O' : Nat → Prop} {l l' : List Ent} (h : Ss w0 w p O l) (hs : Sto w' p O' l') (hg : Move w O w' O') : Ss w0 w' p O' l' :=
  ⟨h.env.turned hg.turn h.low, hs, fun k hk => by
    rcases hg.own k hk with e | e
    · exact h.low k e
    · exact Nat.le_trans h.env.1.size e⟩
theorem Ss.new {w0 w w' : World} {p : Nat} {l : List Ent} (h : Env w0 w) (hn : NewSto w w' p l) : Ss w0 w' p (fun k => w.heap.size ≤ k ∧ k < w'.heap.size) l := ⟨h.next hn.2, hn.1, fun _ hk => Nat.le_trans h.1.size hk.1⟩
def LightS (l : List Ent) (e : Ending) : Prop := ∃ g : Bool, e = .returned (.bool g) ∧ (g = false → l.length ≤ 400)
theorem great07_any (v : Value) (l : List Ent) (w : World) (a : Option Addr) (cap : Nat) (hv : v = .slice a l.length cap) : Calls Tryd.prog 10 #[v] w fun e w' => LightS l e ∧ Below w.heap.size w w' := by
  subst hv
  by_cases h : (400 : Int) < (l.length : Int)
  · go_enter Tryd.func10, Tryd.ntmps10
    go_wp2
    go_ret
    exact ⟨⟨true, rfl, fun e => by cases e⟩, Below.refl _ _⟩
  · go_enter Tryd.func10, Tryd.ntmps10
    go_wp2
    go_ret
    exact ⟨⟨false, rfl, fun _ => by omega⟩, Below.refl _ _⟩
theorem head_text7 : textL [(⟨#[115, 116, 111, 114, 101]⟩, 1)] ++ errText 1 = [115, 116, 111, 114, 101, 32, 49, 58, 32, 99, 111, 104, 111, 114, 116, 58, 32, 101, 114, 114, 111, 114, 32, 49] := by decide +kernel
theorem fit_nil : Fit [] := ⟨by decide, fun j hj => by simp at hj⟩
theorem put_first {w' : World} {B : Nat} {er : Value} {l' : List Ent} (h : PutIs [] [97] [120] w' B er l') : er = .nilIface ∧ Fit l' ∧ l' = [([97], [120], 1)] := by
  rcases h with ⟨n, _, _, ⟨_, h | ⟨i, o, h, _⟩⟩ | ⟨_, _, h, _⟩⟩ | ⟨h1, h2, _, a, hp, ⟨o, h, _⟩ | ⟨_, h⟩⟩
  · exact absurd h (by decide)
  · simp at h
  · simp at h
  · simp at h
  · refine ⟨h1, h2, ?_⟩
    rw [h]; simp
theorem put_second {w' : World} {B : Nat} {er : Value} {l' : List Ent} (h : PutIs [([97], [120], 1)] [97] [121] w' B er l') : er = .nilIface ∧ Fit l' ∧ l' = [([97], [121], 2)] := by
  rcases h with ⟨n, _, _, ⟨_, h | ⟨i, o, h, _, hv⟩⟩ | ⟨_, _, h, _⟩⟩ | ⟨h1, h2, _, a, hp, ⟨o, h, _, _, hl⟩ | ⟨hn, h⟩⟩
  · exact absurd h (by decide)
  · cases i with
    | zero => simp at h; subst h; simp at hv
    | succ i => simp at h
  · simp at h
  · refine ⟨h1, h2, ?_⟩
    cases a with
    | zero => simp at h; subst h; rw [hl]; rfl
    | succ a => simp at h
  · exfalso
    have hr : Rising [(([97], [120], 1) : Ent)] := fun i j a b hij ha hb => by
      have h1 := (List.getElem?_eq_some_iff.1 ha).1
      have h2 := (List.getElem?_eq_some_iff.1 hb).1
      simp at h1 h2; omega
    exact place_get hr hp hn 0 ([97], [120], 1) rfl rfl
theorem lit_unfit : ¬ Fit [(([97], [], 0) : Ent)] := fun h => by
  have := (h.mem (List.mem_singleton.2 rfl)).2.2
  simp at this

set_option maxRecDepth 100000 in
set_option maxHeartbeats 8000000 in
theorem head07_true (w : World) (hg : ET w) (ht : PT w) : Calls Tryd.prog 8 #[] w fun e w' => e = .returned (.bool true) ∧ Below w.heap.size w w' := by
  have HV0 : Hid (Env w w) := ⟨Below.refl _ _, hg, ht⟩
  clear hg ht
  go_enter Tryd.func8, Tryd.ntmps8
  go_wp2_with fail
  refine (stnew_any w).mono ?_
  rintro e w1 ⟨p, rfl, hn⟩
  have HS1 := hideIt (Ss.new HV0.out hn)
  obtain ⟨O1, hO1⟩ : ∃ O1 : Nat → Prop, O1 = fun k => w.heap.size ≤ k ∧ k < w1.heap.size := ⟨_, rfl⟩
  rw [← hO1] at HS1
  clear hn hO1 HV0
  have hin := RowIn.of_own (A := fun k => w1.heap.size ≤ k) (lit_one w1 ([97], [], 0)).choose_spec.2.2.2 (fun _ h => h)
  rw [(lit_one w1 ([97], [], 0)).choose_spec.1] at hin
  have HOF := hideIt (stof_any _ _ _ [([97], [], 0)] hin (by unfold maxLen; simp))
  have HKB := hideIt ((Below.refl w1.heap.size w1).alloc (Nat.le_refl _) (.cells #[.string ⟨#[97]⟩, .string ⟨#[]⟩, .int .i64 0] 28))
  clear hin
  go_wp2_with fail
  refine HOF.out.mono ?_
  rintro e w2 (⟨h, _⟩ | ⟨_, rfl, hb2⟩)
  case inl => exact absurd h lit_unfit
  have HS2 := hideIt ((HS1.out.next HKB.out).next hb2)
  clear hb2 HS1 HOF HKB
  go_wp2_with fail
  refine (stput_any w2 p O1 [] [97] [120] HS2.out.sto fit_nil).mono ?_
  rintro e w3 ⟨er, l3, O3, rfl, g1, g2, g3⟩
  obtain ⟨rfl, hf3, rfl⟩ := put_first g3
  have HS3 := hideIt (HS2.out.move g1 g2)
  have HF3 := hideIt hf3
  clear g1 g2 g3 hf3 HS2
  go_wp2_with fail
  refine (stput_any w3 p O3 [([97], [120], 1)] [97] [121] HS3.out.sto HF3.out).mono ?_
  rintro e w4 ⟨er, l4, O4, rfl, g1, g2, g3⟩
  obtain ⟨rfl, hf4, rfl⟩ := put_second g3
  have HS4 := hideIt (HS3.out.move g1 g2)
  have HF4 := hideIt hf4
  clear g1 g2 g3 hf4 HS3 HF3
  go_wp2_with fail
  refine (stget_any w4 p O4 [([97], [121], 2)] [97] HS4.out.sto HF4.out.rising (by simp)).mono ?_
  rintro e w5 ⟨x, is, rfl, hx, hb5⟩
  obtain ⟨rfl, rfl⟩ : x = ([97], [121], 2) ∧ is = true := GetIs.one HF4.out.rising (Or.inl ⟨rfl, rfl, 0, rfl⟩) hx
  unfold entV
  obtain ⟨W5, hW5, hwb5, _, y0, y1, y2⟩ := room3 w5 28 (.string ⟨#[97]⟩) (.string ⟨#[121]⟩) (.int .i64 2)
  have HS5 := hideIt ((HS4.out.next hb5).next hwb5)
  have hy5 : w5.heap.size < W5.heap.size := lt_of_cell (a := ⟨w5.heap.size, 0, none⟩) y0
  have HNO : Hid (¬ O4 w5.heap.size) := hideIt (fun o => by have := (HS4.out.next hb5).sto; obtain ⟨_, _, _, _, h, _⟩ := this; have := h _ o; omega)
  clear hb5 hwb5 HS4 hx
  go_wp2_with fail
  rw [← hW5]
  clear hW5
  refine (stput_any W5 p O4 [([97], [121], 2)] [48, 49, 50, 51, 52, 53, 54, 55, 56, 57, 97, 98, 99, 100, 101, 102, 103] [] HS5.out.sto HF4.out).mono ?_
  rintro e w6 ⟨er, l6, O6, rfl, g1, g2, g3⟩
  obtain ⟨ho, rfl⟩ : One w6 (W5.heap.size ≤ ·) er 1 ⟨#[115, 116, 111, 114, 101]⟩ 1 ∧ l6 = [([97], [121], 2)] := by
    rcases g3 with ⟨n, h1, h2, ⟨rfl, _⟩ | ⟨_, h, _⟩⟩ | ⟨_, _, h, _⟩
    · exact ⟨h1, h2⟩
    · exact absurd h (by decide)
    · exact absurd h (by decide)
  have HS6 := hideIt (HS5.out.move g1 g2)
  have HO6 := hideIt ho
  have z0 := g2.turn.kept (A := fun k => k = w5.heap.size) (fun k hk _ => by subst hk; exact HNO.out)
  have c0 := z0.cell (a := ⟨w5.heap.size, 0, none⟩) rfl y0
  have c1 := z0.cell (a := ⟨w5.heap.size, 1, none⟩) rfl y1
  have c2 := z0.cell (a := ⟨w5.heap.size, 2, none⟩) rfl y2
  clear z0 g1 g2 g3 ho HS5 y0 y1 y2 HNO
  go_wp2_with fail
  have HA := hideIt (HS6.out.env.at HO6.out)
  refine (HA.out.text (by unfold fits; omega) (by decide) (by intro x hx; simp at hx; subst hx; unfold fits; simp) (by decide +kernel)).mono ?_
  rintro e w8 ⟨he, -, HB8⟩
  have he' : e = Ending.returned (.string ⟨#[115, 116, 111, 114, 101, 32, 49, 58, 32, 99, 111, 104, 111, 114, 116, 58, 32, 101, 114, 114, 111, 114, 32, 49]⟩) := by rw [he]; exact congrArg (fun x => Ending.returned (.string ⟨List.toArray x⟩)) head_text7
  clear he
  subst he'
  have HS8 := hideIt (HS6.out.next HB8.out)
  clear HA HB8 HS6 HO6 c0 c1 c2
  go_wp2_with fail
  refine (stroom_any w8 p O6 [([97], [121], 2)] 127 HS8.out.sto (by simp)).mono ?_
  rintro e w9 ⟨rfl, rfl⟩
  rw [show decide ((127 : Int) ≤ 128 - (([([97], [121], 2)] : List Ent).length : Int)) = true by simp]
  go_wp2_with fail
  refine (stroom_any w9 p O6 [([97], [121], 2)] 128 HS8.out.sto (by simp)).mono ?_
  rintro e w10 ⟨rfl, rfl⟩
  rw [show decide ((128 : Int) ≤ 128 - (([([97], [121], 2)] : List Ent).length : Int)) = false by simp]
  go_wp2
  go_ret
  exact ⟨rfl, HS8.out.env.1⟩
end Go.Proofs.YtddmjbmfkdhhgaaDoor
