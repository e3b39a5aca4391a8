/-
  What is proved here: an Errno's Error, and fault's told of it, over this program. Condition: the library's table of powers of ten lies as it is laid.
-/
import Derived.Test.YtafhmbgnldmedaaDoorUnfold
import Derived.Test.YtafhmbgnldmedaaDoorShelfB
import Derived.Lib.ItoaLen
namespace Go.Proofs.YtafhmbgnldmedaaDoor
open Go.RowKit Go.Extern.Stop Go.Stop Go.Extern

/-- strconv's table lies as package strconv lays it. -/
def PT (w : World) : Prop := Lib.TabIs Tryd.prog w "internal/strconv.uint64pow10" .u64 Lib.pow10Tab
theorem pow10Global : Tryd.prog.globalNamed "internal/strconv.uint64pow10" = some 1 := by kernel_rfl
theorem PT.kept {B : Nat} {w w' : World} (h : PT w) (hb : Below B w w') (hB : 1 < B) : PT w' := var?_below hb pow10Global hB h
theorem PT.lt {w : World} (h : PT w) : 1 < w.heap.size := lt_of_cell (Lib.TabIs.cell h pow10Global 0 (by decide))

def fits (n : Int) : Prop := -9223372036854775808 ≤ n ∧ n ≤ 9223372036854775807

/-- what an Errno tells: cohort: error, and the number -/
def errText (n : Int) : List UInt8 := [99, 111, 104, 111, 114, 116, 58, 32, 101, 114, 114, 111, 114, 32] ++ Lib.itoa n

theorem below_grown (w : World) (k : Nat) (os : Array Obj) : Below w.heap.size w (Sort.grow (w.drewN k) os) :=
  ⟨rfl, rfl, rfl, by simp [Sort.grow, World.drewN], fun i hi => by simp [Sort.grow, World.drewN, Array.getElem?_append_left hi]⟩

theorem Itoa_any (n : Int) (hn : fits n) (w : World) (ht : PT w) : Calls Tryd.prog 40 #[.int .i64 n] w fun e w' => e = .returned (.string ⟨(Lib.itoa n).toArray⟩) ∧ Below w.heap.size w w' := by
  refine (Tryd.strconv_Itoa n hn.1 hn.2 w ht).mono ?_
  rintro e w' ⟨he, k, os, rfl⟩
  exact ⟨he, below_grown w k os⟩

theorem bytes_append (a b : List UInt8) : (⟨a.toArray⟩ ++ ⟨b.toArray⟩ : ByteArray) = ⟨(a ++ b).toArray⟩ := by
  apply ByteArray.ext; simp

theorem Error_any (n : Int) (hn : fits n) (w : World) (ht : PT w) : Calls Tryd.prog 102 #[.int .i64 n] w fun e w' => e = .returned (.string ⟨(errText n).toArray⟩) ∧ Below w.heap.size w w' := by
  have HI := hideIt (Itoa_any n hn w ht)
  have hl := Lib.itoa_length_le n hn.1 hn.2
  clear hn ht
  go_enter Tryd.func102, Tryd.ntmps102
  go_wp2_with (go_at_call 40; refine HI.out.mono ?_; rintro e w' ⟨rfl, hb⟩)
  go_ret
  exact ⟨congrArg (fun x => Ending.returned (.string x)) (bytes_append _ _), hb⟩

theorem methodError (n : Int) (w : World) : (Go.method (173 + 100) 32 (.int .i64 n) "Error").run Tryd.prog w = .ok (102, .int .i64 n) w := by kernel_rfl

theorem told1_errno (n : Int) (hn : fits n) (p q : Addr) (old : Value) (w : World) (ht : PT w) (hp : w.cell? p = some (.iface 32 (.int .i64 n))) (hq : w.cell? q = some old) (hf : w.frozen? q = false) :
    Calls Tryd.prog 56 #[.pointer (some p), .pointer (some q)] w fun e w' => e = .returned (.bool true) ∧ Below w.heap.size (w.setCell q (.string ⟨(errText n).toArray⟩)) w' := by
  have HE := hideIt (Error_any n hn w ht)
  have mE := methodError
  have hql := lt_of_cell hq
  clear hn ht
  go_enter Tryd.func56, Tryd.ntmps56
  go_wp2_with fail
  refine HE.out.mono ?_
  rintro e w1 ⟨rfl, hb⟩
  have c1 : w1.cell? q = some old := (hb.cell hql).trans hq
  have f1 : w1.frozen? q = false := (hb.frozen hql).trans hf
  clear hp hq hf
  go_wp2
  go_ret
  exact ⟨rfl, below_set hb _ _⟩

theorem told_errno (n : Int) (hn : fits n) (w : World) (ht : PT w) :
    Calls Tryd.prog 41 #[.iface 32 (.int .i64 n)] w fun e w' => e = .returned (.string ⟨(errText n).toArray⟩) ∧ Below w.heap.size w w' := by
  have h1 := told1_errno n hn ⟨w.heap.size, 0, none⟩ ⟨w.heap.size + 1, 0, none⟩ (.string ⟨#[]⟩) (((w.alloc (.cells #[.iface 32 (.int .i64 n)] 28)).alloc (.cells #[.string ⟨#[]⟩] 9)).alloc (.cells #[.bool false] 4)) (ht.kept (below3 ..) ht.lt) (cell3_0 ..) (cell3_1 ..) (froz3_1 ..)
  have h2 : Calls Tryd.prog 43 #[.func (.func 56) #[] #[.pointer (some ⟨w.heap.size, 0, none⟩), .pointer (some ⟨w.heap.size + 1, 0, none⟩)]] ((w.alloc (.cells #[.iface 32 (.int .i64 n)] 28)).alloc (.cells #[.string ⟨#[]⟩] 9))
      fun e w' => e = .returned (.bool true) ∧ w'.cell? ⟨w.heap.size + 1, 0, none⟩ = some (.string ⟨(errText n).toArray⟩) ∧ w'.frozen? ⟨w.heap.size + 1, 0, none⟩ = false ∧ Below w.heap.size w w' := by
    have hsz : ((w.alloc (.cells #[.iface 32 (.int .i64 n)] 28)).alloc (.cells #[.string ⟨#[]⟩] 9)).heap.size = w.heap.size + 1 + 1 := by simp
    refine (holds_any 56 _ true _ _ (enterTold1 _) h1 (fun w' hb => ?_)).mono ?_
    · rw [hsz]; exact ⟨(closed3 hb).1, (closed3 hb).2.1⟩
    · rintro e w' ⟨he, w2, hb, rfl⟩
      rw [hsz]
      exact ⟨he, by rw [World.cell?_setCell_other _ _ _ _ (by simp)]; exact (closed3 hb).2.2.1, by rw [World.frozen?_setCell]; exact (closed3 hb).2.2.2.1, (closed3 hb).2.2.2.2.setCell (by show w.heap.size ≤ w.heap.size + 1 + 1; omega) _⟩
  have HH := hideIt h2
  have hm := hmf
  clear h1 h2 hn ht
  go_enter Tryd.func41, Tryd.ntmps41
  go_wp2_with (go_at_call 43; refine HH.out.mono ?_; rintro e w' ⟨rfl, hc, hf, hb⟩)
  have hcell : (w'.setCell ⟨w.heap.size + 1, 0, none⟩ (.string ⟨(errText n).toArray⟩)).cell? ⟨w.heap.size + 1, 0, none⟩ = some (.string ⟨(errText n).toArray⟩) := World.cell?_setCell_same _ _ _ hc
  exact bodyPost_ret (v := .string ⟨(errText n).toArray⟩) (by simp [results, Tryd.results41, go_sem, hcell]) rfl ⟨rfl, hb.setCell (by show w.heap.size ≤ w.heap.size + 1; omega) _⟩

theorem told_nil (w : World) : Calls Tryd.prog 41 #[.nilIface] w fun e w' => e = .returned (.string ⟨#[]⟩) ∧ Below w.heap.size w w' := by
  go_enter Tryd.func41, Tryd.ntmps41
  go_wp2
  exact bodyPost_ret (v := .string ⟨#[]⟩) (by simp [results, Tryd.results41, go_sem]) rfl ⟨rfl, below2 ..⟩
end Go.Proofs.YtafhmbgnldmedaaDoor
