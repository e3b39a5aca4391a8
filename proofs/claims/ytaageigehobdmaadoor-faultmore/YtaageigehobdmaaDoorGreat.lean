/-
  What is proved here: the statements' own great, over this program: where it says no, the steps and their texts are few.
-/
import Derived.Test.YtaageigehobdmaaDoorBasic
namespace Go.Proofs.YtaageigehobdmaaDoor
open Go.RowKit Go.Extern.Stop Go.Stop Go.Extern

/-- what great adds up -/
def weight : List (ByteArray × Int) → Nat
  | [] => 0
  | x :: r => 10 + min x.1.size 20000 + weight r
theorem weight_append (a b : List (ByteArray × Int)) : weight (a ++ b) = weight a + weight b := by
  induction a with
  | nil => simp [weight]
  | cons x r ih => simp [weight, ih]; omega
theorem weight_take (l : List (ByteArray × Int)) (k : Nat) (x : ByteArray × Int) (hx : l[k]? = some x) : weight (l.take (k + 1)) = weight (l.take k) + (10 + min x.1.size 20000) := by
  have hlt : k < l.length := (List.getElem?_eq_some_iff.1 hx).1
  have he : l[k] = x := (List.getElem?_eq_some_iff.1 hx).2
  rw [List.take_succ_eq_append_getElem hlt, weight_append, he]; simp [weight]
theorem weight_len (l : List (ByteArray × Int)) : 10 * l.length ≤ weight l := by
  induction l with
  | nil => simp [weight]
  | cons x r ih => simp [weight]; omega
theorem weight_text (l : List (ByteArray × Int)) (h : weight l < 20000) (hk : ∀ x ∈ l, fits x.2) : (textL l).length ≤ 24 * l.length + weight l := by
  induction l with
  | nil => simp [textL]
  | cons x r ih =>
    simp only [weight] at h
    have h1 := ih (by omega) (fun y hy => hk y (by simp [hy]))
    have h2 := Lib.itoa_length_le x.2 (hk x (by simp)).1 (hk x (by simp)).2
    have h3 : x.1.data.size = x.1.size := rfl
    simp only [textL, stepText, weight, List.length_append, List.length_cons, Array.length_toList, List.length_nil]
    omega

/-- what great answers: no only where the steps are light -/
def GreatPost (l : List (ByteArray × Int)) (e : Ending) : Prop := ∃ g : Bool, e = .returned (.bool g) ∧ (g = false → weight l < 20000)

set_option maxHeartbeats 4000000 in
theorem great_any (B : Nat) (sl : Value) (l : List (ByteArray × Int)) (w : World) (hs : Steps w B sl l) (hlen : l.length ≤ maxLen) (hsz : ∀ x ∈ l, x.1.size ≤ maxLen) :
    Calls Tryd.prog 9 #[sl] w fun e w' => GreatPost l e ∧ w' = w := by
  obtain ⟨a, cap, rfl, hst⟩ := hs
  have HS := hideIt hst
  have HZ := hideIt hsz
  unfold maxLen at hlen
  clear hst hsz
  go_enter Tryd.func9, Tryd.ntmps9
  go_wp2
  go_loop [3, 4] (fun n i => ∃ k : Nat, k ≤ l.length ∧ i = .int .i64 k ∧ n = .int .i64 (weight (l.take k)) ∧ weight (l.take k) ≤ 50000) (fun _ i => l.length - (intOf i).toNat)
  case atStart => exact ⟨0, Nat.zero_le _, rfl, rfl, by simp [weight]⟩
  case round =>
    obtain ⟨k, hk, rfl, rfl, hw0⟩ := hrel
    have hw : ((weight (l.take k) : Nat) : Int) ≤ 50000 := by omega
    clear hw0
    by_cases hlt : k < l.length
    · by_cases hn : ((weight (l.take k) : Nat) : Int) < 20000
      · obtain ⟨x, hx⟩ : ∃ x, l[k]? = some x := ⟨l[k], by simp [hlt]⟩
        obtain ⟨b, off, rfl, hbb, c0, c1⟩ := HS.out k x hx
        have hxs := HZ.out x (List.mem_of_getElem? hx)
        unfold maxLen at hxs
        have HW := hideIt (weight_take l k x hx)
        clear c1 hx
        go_wp2
        have h1 := HW.out
        refine ⟨⟨k + 1, by omega, by go_num, congrArg (Value.int .i64) (by omega), by omega⟩, by simp [intOf]; omega⟩
      · go_wp2
        go_ret
        exact ⟨⟨_, rfl, fun h => by simp at h⟩, rfl⟩
    · have ek : k = l.length := by omega
      have HE := hideIt ek
      clear ek
      go_wp2
      go_ret
      exact ⟨⟨_, rfl, fun h => by rw [HE.out, List.take_length] at h; simp at h; omega⟩, rfl⟩
end Go.Proofs.YtaageigehobdmaaDoor
