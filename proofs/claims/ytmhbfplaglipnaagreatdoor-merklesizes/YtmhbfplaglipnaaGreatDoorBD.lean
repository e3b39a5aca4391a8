/-
  What is proved here: the statements' own head and great (cohortlaw03), over this program.
-/
import Derived.Test.YtmhbfplaglipnaaGreatDoorBC
namespace Go.Proofs.YtmhbfplaglipnaaGreatDoor
open Go.RowKit Go.Extern.Stop Go.Stop Go.Extern

def wgt (l : List (List UInt8)) : Nat := (l.map fun s => 10 + min s.length 300000).sum
theorem wgt_take (l : List (List UInt8)) (k : Nat) (x : List UInt8) (hx : l[k]? = some x) : wgt (l.take (k + 1)) = wgt (l.take k) + (10 + min x.length 300000) := by
  have hlt : k < l.length := (List.getElem?_eq_some_iff.1 hx).1
  have he : l[k] = x := (List.getElem?_eq_some_iff.1 hx).2
  unfold wgt
  rw [List.take_succ_eq_append_getElem hlt, he]; simp
theorem wgt_mem (l : List (List UInt8)) (h : wgt l < 300000) : ∀ x ∈ l, x.length < 300000 := by
  induction l with
  | nil => simp
  | cons y r ih =>
    have e : wgt (y :: r) = 10 + min y.length 300000 + wgt r := by simp [wgt]
    rw [e] at h
    intro x hx
    simp only [List.mem_cons] at hx
    rcases hx with rfl | hx
    · omega
    · exact ih (by omega) x hx
/-- what great answers: no only where the texts are few and short -/
def LightPost (l : List (List UInt8)) (e : Ending) : Prop := ∃ g : Bool, e = .returned (.bool g) ∧ (g = false → l.length ≤ 300 ∧ ∀ x ∈ l, x.length < 300000)

theorem head_text3 : textL [(⟨#[98, 111, 111, 107]⟩, 2)] ++ errText 1 = [98, 111, 111, 107, 32, 50, 58, 32, 99, 111, 104, 111, 114, 116, 58, 32, 101, 114, 114, 111, 114, 32, 49] := by decide +kernel

end Go.Proofs.YtmhbfplaglipnaaGreatDoor
