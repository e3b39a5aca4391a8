/-
  What is proved here: the head of cohortlaw07, great; over this program.
-/
import Derived.Test.YtohlepbfjgehgaaGreatDoorEI
namespace Go.Proofs.YtohlepbfjgehgaaGreatDoor
open Go.RowKit Go.Extern.Stop Go.Stop Go.Extern

/-- a world behind w0, with a Store -/
structure Ss (w0 w : World) (p : Nat) (O : Nat → Prop) (l : List Ent) : Prop where
  env : Env w0 w
  sto : Sto w p O l
  low : ∀ k, O k → w0.heap.size ≤ k
theorem Ss.next {w0 w w' : World} {p : Nat} {O : Nat → Prop} {l : List Ent} (h : Ss w0 w p O l) (hb : Below w.heap.size w w') : Ss w0 w' p O l := ⟨h.env.next hb, h.sto.next hb, h.low⟩
theorem Ss.move {w0 w w' : World} {p : Nat} {O O' : Nat → Prop} {l l' : List Ent} (h : Ss w0 w p O l) (hs : Sto w' p O' l') (hg : Move w O w' O') : Ss w0 w' p O' l' :=
  ⟨h.env.turned hg.turn h.low, hs, fun k hk => by
    rcases hg.own k hk with e | e
    · exact h.low k e
    · exact Nat.le_trans h.env.1.size e⟩
theorem Ss.new {w0 w w' : World} {p : Nat} {l : List Ent} (h : Env w0 w) (hn : NewSto w w' p l) : Ss w0 w' p (fun k => w.heap.size ≤ k ∧ k < w'.heap.size) l := ⟨h.next hn.2, hn.1, fun _ hk => Nat.le_trans h.1.size hk.1⟩
def LightS (l : List Ent) (e : Ending) : Prop := ∃ g : Bool, e = .returned (.bool g) ∧ (g = false → l.length ≤ 400)
theorem head_text7 : textL [(⟨#[115, 116, 111, 114, 101]⟩, 1)] ++ errText 1 = [115, 116, 111, 114, 101, 32, 49, 58, 32, 99, 111, 104, 111, 114, 116, 58, 32, 101, 114, 114, 111, 114, 32, 49] := by decide +kernel
theorem fit_nil : Fit [] := ⟨by decide, fun j hj => by simp at hj⟩
theorem put_first {w' : World} {B : Nat} {er : Value} {l' : List Ent} (h : PutIs [] [97] [120] w' B er l') : er = .nilIface ∧ Fit l' ∧ l' = [([97], [120], 1)] := by
  rcases h with ⟨n, _, _, ⟨_, h | ⟨i, o, h, _⟩⟩ | ⟨_, _, h, _⟩⟩ | ⟨h1, h2, _, a, hp, ⟨o, h, _⟩ | ⟨_, h⟩⟩
  · exact absurd h (by decide)
  · simp at h
  · simp at h
  · simp at h
  · refine ⟨h1, h2, ?_⟩
    rw [h]; simp
theorem put_second {w' : World} {B : Nat} {er : Value} {l' : List Ent} (h : PutIs [([97], [120], 1)] [97] [121] w' B er l') : er = .nilIface ∧ Fit l' ∧ l' = [([97], [121], 2)] := by
  rcases h with ⟨n, _, _, ⟨_, h | ⟨i, o, h, _, hv⟩⟩ | ⟨_, _, h, _⟩⟩ | ⟨h1, h2, _, a, hp, ⟨o, h, _, _, hl⟩ | ⟨hn, h⟩⟩
  · exact absurd h (by decide)
  · cases i with
    | zero => simp at h; subst h; simp at hv
    | succ i => simp at h
  · simp at h
  · refine ⟨h1, h2, ?_⟩
    cases a with
    | zero => simp at h; subst h; rw [hl]; rfl
    | succ a => simp at h
  · exfalso
    have hr : Rising [(([97], [120], 1) : Ent)] := fun i j a b hij ha hb => by
      have h1 := (List.getElem?_eq_some_iff.1 ha).1
      have h2 := (List.getElem?_eq_some_iff.1 hb).1
      simp at h1 h2; omega
    exact place_get hr hp hn 0 ([97], [120], 1) rfl rfl
theorem lit_unfit : ¬ Fit [(([97], [], 0) : Ent)] := fun h => by
  have := (h.mem (List.mem_singleton.2 rfl)).2.2
  simp at this

end Go.Proofs.YtohlepbfjgehgaaGreatDoor
