/-
  What is proved here: plain facts of moves; pieces told once; a move done, in the worlds of the statements; over this program.
-/
import Derived.Test.YtafhmbgnldmedaaDoorPK
import Derived.Test.YtafhmbgnldmedaaDoorPM
namespace Go.Proofs.YtafhmbgnldmedaaDoor
open Go.RowKit Go.Extern.Stop Go.Stop Go.Extern

theorem move_begins {L L' : List Pc} {fk tk : List UInt8} {s a : Int} (h : MoveIs L fk tk s 0 a L') : (∃ q ∈ L', q.1 = fk) ∧ (∃ q ∈ L', q.1 = tk) ∧ (∀ x ∈ L, ∃ q ∈ L', q.1 = x.1) ∧ L.length ≤ L'.length ∧ L'.length ≤ L.length + 2 := by
  obtain ⟨_, _, M1, M2, c1, c2, _, _, rfl⟩ := move_ok h
  have hup : ∀ k, (∃ q ∈ M2, q.1 = k) → ∃ q ∈ M2.map (updP fk tk s), q.1 = k := fun k ⟨q, hq, e⟩ => ⟨_, List.mem_map_of_mem hq, by rw [updP_from]; exact e⟩
  have h12 : ∀ k, (∃ q ∈ M1, q.1 = k) → ∃ q ∈ M2, q.1 = k := fun k ⟨q, hq, e⟩ => ⟨q, (cut_mem c2 q).2 (Or.inl hq), e⟩
  refine ⟨hup _ (h12 _ (cut_begins c1)), hup _ (cut_begins c2), fun x hx => hup _ (h12 _ ⟨x, (cut_mem c1 x).2 (Or.inl hx), rfl⟩), ?_, ?_⟩
  · rw [List.length_map]; exact Nat.le_trans (cut_len c1).1 (cut_len c2).1
  · rw [List.length_map]; have := (cut_len c1).2; have := (cut_len c2).2; omega
/-- a move's error: none, or a wrapped one -/
theorem move_err {w : World} {B : Nat} {er : Value} {n k : Int} (h : (n = 0 ∧ er = .nilIface) ∨ (n ≠ 0 ∧ One w (B ≤ ·) er n routeS k)) : (n = 0 ∧ er = .nilIface) ∨ (n ≠ 0 ∧ ∃ ty y, er = .iface ty y) := by
  rcases h with h | ⟨h, ho⟩
  · exact Or.inl h
  · exact Or.inr ⟨h, ho.iface⟩
/-- pieces that lie apart from a route's own block -/
def PcsNe (w : World) (p : Nat) (v : Value) (l : List Pc) : Prop := PcsIn w (fun k => k ≠ p) v l
theorem PcsNe.next {w w' : World} {p : Nat} {v : Value} {l : List Pc} (h : PcsNe w p v l) (hb : Below w.heap.size w w') : PcsNe w' p v l := RowIn.kept h (Kept.of_all hb)
theorem PcsNe.grown {w w' : World} {p : Nat} {v : Value} {l : List Pc} (h : PcsNe w p v l) (hg : w.grownBy w' (some p)) : PcsNe w' p v l := RowIn.kept h (Kept.of_grown hg (fun e => e rfl))
theorem PcsNe.own {w w' : World} {p : Nat} {v : Value} {l : List Pc} (h : w'.ownsRow w.heap.size 39 3 v l.length (pcsCells l)) (hp : p < w.heap.size) : PcsNe w' p v l :=
  RowIn.mono (own_in h) (fun k hk _ => by have := (World.ownsRow.lt h k hk).1; intro e; omega)
theorem PcsNe.low {w0 w : World} {p : Nat} {v : Value} {l : List Pc} (h : PcsIn w (· < w0.heap.size) v l) (hp : w0.heap.size ≤ p) : PcsNe w p v l := RowIn.mono h (fun k hk _ => by intro e; omega)
/-- what lies ahead of w0 is as it was, wherever a route was moved -/
theorem kept_low {w0 w w' : World} {p : Nat} (hg : w.grownBy w' (some p)) (hp : w0.heap.size ≤ p) : Kept (· < w0.heap.size) w w' := Kept.of_grown hg (fun h => by omega)
theorem kept_next {w0 w w' : World} (hb : Below w.heap.size w w') : Kept (· < w0.heap.size) w w' := Kept.of_all hb
/-- a room of three cells, new, of a piece -/
theorem room_pc (w : World) (x : Pc) : ∃ W, W = w.alloc (.cells #[.string ⟨x.1.toArray⟩, .int .i64 x.2.1, .int .i64 x.2.2] 39) ∧ Below w.heap.size w W ∧ R3 W w.heap.size (.string ⟨x.1.toArray⟩) (.int .i64 x.2.1) (.int .i64 x.2.2) := by
  obtain ⟨W, h1, h2, _, h3, h4, h5⟩ := room3 w 39 (.string ⟨x.1.toArray⟩) (.int .i64 x.2.1) (.int .i64 x.2.2)
  exact ⟨W, h1, h2, h3, h4, h5⟩
theorem Rs.ne {w0 w : World} {p : Nat} {l : List Pc} (h : Rs w0 w p l) {q : Nat} (hq : w.heap.size ≤ q) : q ≠ p := fun e => by have := h.rt.lt; omega
end Go.Proofs.YtafhmbgnldmedaaDoor
