/-
  What is proved here: book's Digest of a text that is not too long, in one; what texts were asked, over this program.
-/
import Derived.Test.YtmhbfplaglipnaaGreatDoorBD
namespace Go.Proofs.YtmhbfplaglipnaaGreatDoor
open Go.RowKit Go.Extern.Stop Go.Stop Go.Extern

/-- the texts, once s was asked -/
def comes (T : List (List UInt8)) (s : List UInt8) : List (List UInt8) := if s ∈ T then T else T ++ [s]
theorem comes_old {T : List (List UInt8)} {s x : List UInt8} {d : Nat} (h : T[d]? = some x) : (comes T s)[d]? = some x := by
  unfold comes
  split
  · exact h
  · rw [List.getElem?_append_left (List.getElem?_eq_some_iff.1 h).1]; exact h
theorem comes_le (T : List (List UInt8)) (s : List UInt8) : (comes T s).length ≤ T.length + 1 := by
  unfold comes
  split
  · omega
  · simp
theorem comes_mem (T : List (List UInt8)) (s x : List UInt8) : x ∈ comes T s ↔ x ∈ T ∨ x = s := by
  unfold comes
  split
  · rename_i h
    constructor
    · exact Or.inl
    · rintro (e | rfl)
      · exact e
      · exact h
  · simp

theorem bDigest_ok (w : World) (p : Nat) (O A : Nat → Prop) (T : List (List UInt8)) (v : Value) (s : List UInt8) (h : BookSt w p O T) (hv : BytesIn w A v s) (hs : s.length ≤ 65536) (hl : T.length < 65536) :
    Calls Tryz.prog 73 #[.pointer (some ⟨p, 0, none⟩), v] w fun e w' => ∃ (d : Nat) (O' : Nat → Prop), e = .returned (.tuple #[.int .i64 d, .nilIface]) ∧ (comes T s)[d]? = some s ∧ BookSt w' p O' (comes T s) ∧ Turn O w w' ∧ ∀ k, O' k → (O k ∨ w.heap.size ≤ k) ∧ k < w'.heap.size := by
  by_cases hm : s ∈ T
  · obtain ⟨i, hi⟩ := List.getElem?_of_mem hm
    refine (bDigest_there w p O A T v s i h hv hi).mono ?_
    rintro e w' ⟨rfl, hb⟩
    exact ⟨i, fun k => O k ∧ k < w'.heap.size, rfl, comes_old hi, by unfold comes; rw [if_pos hm]; exact (h.kept (Kept.of_all hb)).mono (fun k hk hl => ⟨hk, hl⟩), Turn.of_below hb, fun k hk => ⟨Or.inl hk.1, hk.2⟩⟩
  · refine (bDigest_new w p O A T v s h hv hm hs hl).mono ?_
    rintro e w' ⟨rfl, O', h1, h2, h3⟩
    exact ⟨T.length, fun k => O' k ∧ k < w'.heap.size, rfl, by unfold comes; rw [if_neg hm]; simp, by unfold comes; rw [if_neg hm]; exact h1.mono (fun k hk hl => ⟨hk, hl⟩), h2, fun k hk => ⟨h3 k hk.1, hk.2⟩⟩

theorem str_eq (x y : List UInt8) : ((⟨x.toArray⟩ : ByteArray) = ⟨y.toArray⟩) ↔ x = y := by
  constructor
  · intro h
    have := congrArg (fun b : ByteArray => b.data.toList) h
    simpa using this
  · rintro rfl; rfl
end Go.Proofs.YtmhbfplaglipnaaGreatDoor
