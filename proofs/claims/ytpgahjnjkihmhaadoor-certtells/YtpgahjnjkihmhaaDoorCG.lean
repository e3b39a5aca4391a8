/-
  What is proved here: plain facts of those who signed, and of what is right: what is made is right; signers that are right rise, and signed; over this program.
-/
import Derived.Test.YtpgahjnjkihmhaaDoorCE
namespace Go.Proofs.YtpgahjnjkihmhaaDoor
open Go.RowKit Go.Extern.Stop Go.Stop Go.Extern

theorem none_signed {L : List (Int × Int)} (h : ∀ x ∈ L, okS x.1 x.2 ∧ fits x.2) {who d : Int} (hw : who < 0) : (who, d) ∉ L := fun hm => by
  have h1 := (h _ hm).1.1
  rcases h1 with ⟨h1, _⟩ | h1 <;> simp at h1 <;> omega
theorem whoTo_rise (L : List (Int × Int)) (g d : Int) (k : Nat) : (whoTo L g d k).Pairwise (· < ·) := by
  unfold whoTo
  rw [List.pairwise_map]
  exact (List.pairwise_lt_range.filter _).imp (fun h => by omega)
theorem whoTo_mem {L : List (Int × Int)} {g d : Int} {k : Nat} {x : Int} (h : x ∈ whoTo L g d k) : (memb g x, d) ∈ L := by
  unfold whoTo at h
  obtain ⟨i, hi, rfl⟩ := List.mem_map.1 h
  simpa using (List.mem_filter.1 hi).2
/-- what is made is right -/
theorem chk_made {L : List (Int × Int)} (hL : ∀ x ∈ L, okS x.1 x.2 ∧ fits x.2) {g d : Int} {n : Nat} (h1 : 1 ≤ n) (h2 : n ≤ (whoTo L g d 10).length) : chk L g d ((whoTo L g d 10).take n) (n : Int) = none := by
  rw [chk_none]
  have hlen : ((whoTo L g d 10).take n).length = n := by rw [List.length_take]; omega
  refine ⟨fun j hj => ?_, by omega, by omega⟩
  rw [hlen] at hj
  have hjl : j < (whoTo L g d 10).length := by omega
  have ej : ((whoTo L g d 10).take n)[j]? = some (whoTo L g d 10)[j] := by rw [List.getElem?_take_of_lt hj]; simp [hjl]
  rw [ej]
  simp only [Option.getD_some]
  have hm := whoTo_mem (List.getElem_mem hjl)
  refine whyS_zero.2 ⟨?_, hm⟩
  rintro (hb | ⟨hj0, hle⟩)
  · exact none_signed hL hb hm
  · have ek : ((whoTo L g d 10).take n)[j - 1]? = some (whoTo L g d 10)[j - 1] := by rw [List.getElem?_take_of_lt (by omega)]; simp
    rw [ek] at hle
    simp only [Option.getD_some] at hle
    have := List.pairwise_iff_getElem.1 (whoTo_rise L g d 10) (j - 1) j (by omega) hjl (by omega)
    omega
theorem chk_signed {L : List (Int × Int)} {g d : Int} {S : List Int} {need : Int} (h : chk L g d S need = none) {i : Nat} {x : Int} (hx : S[i]? = some x) : (memb g x, d) ∈ L := by
  have h1 := (chk_none.1 h).1 i (List.getElem?_eq_some_iff.1 hx).1
  rw [hx] at h1
  exact (whyS_zero.1 h1).2
theorem chk_next {L : List (Int × Int)} {g d : Int} {S : List Int} {need : Int} (h : chk L g d S need = none) {i : Nat} {x y : Int} (hx : S[i + 1]? = some x) (hy : S[i]? = some y) : y < x := by
  have h1 := (chk_none.1 h).1 (i + 1) (List.getElem?_eq_some_iff.1 hx).1
  rw [hx] at h1
  have h2 := (whyS_zero.1 h1).1
  rw [Nat.add_sub_cancel, hy] at h2
  simp only [Option.getD_some] at h2
  omega
/-- signers that are right rise -/
theorem chk_rise {L : List (Int × Int)} {g d : Int} {S : List Int} {need : Int} (h : chk L g d S need = none) {k : Nat} {y : Int} (hy : S[k]? = some y) (m : Nat) {x : Int} (hx : S[k + 1 + m]? = some x) : y < x := by
  induction m generalizing x with
  | zero => exact chk_next h hx hy
  | succ m ih =>
    have hl : k + 1 + (m + 1) < S.length := (List.getElem?_eq_some_iff.1 hx).1
    have hz : S[k + 1 + m]? = some (S[k + 1 + m]'(by omega)) := by simp
    have := ih hz
    have := chk_next h (i := k + 1 + m) (by rw [Nat.add_assoc (k + 1) m 1]; exact hx) hz
    omega
theorem chk_unlike {L : List (Int × Int)} {g d : Int} {S : List Int} {need : Int} (h : chk L g d S need = none) {k i : Nat} (hki : k < i) {x y : Int} (hy : S[k]? = some y) (hx : S[i]? = some x) : (y == x) = false := by
  have := chk_rise h hy (i - (k + 1)) (x := x) (by rw [show k + 1 + (i - (k + 1)) = i by omega]; exact hx)
  have hne : y ≠ x := by omega
  simpa using hne
end Go.Proofs.YtpgahjnjkihmhaaDoor
