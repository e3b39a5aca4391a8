/-
  What is proved here: the document's own Text (package cohortref01), over this program: the text of a number with the steps that it came through.
-/
import Derived.Test.YtaaaibnalhmmgaaDoorSame
namespace Go.Proofs.YtaaaibnalhmmgaaDoor
open Go.RowKit Go.Extern.Stop Go.Stop Go.Extern

theorem size_of {s : ByteArray} {l : List UInt8} (h : s.data.toList = l) : s.size = l.length := by rw [← h]; rfl
theorem bytes_of {s : ByteArray} {l : List UInt8} (h : s.data.toList = l) : s = ⟨l.toArray⟩ := by
  apply ByteArray.ext; rw [← h]

theorem cat_eq (s : ByteArray) (x : ByteArray × Int) : (s ++ x.1 ++ ⟨#[32]⟩ ++ ⟨(Lib.itoa x.2).toArray⟩ ++ ⟨#[58, 32]⟩ : ByteArray).data.toList = s.data.toList ++ stepText x := by
  simp [stepText]
theorem cat_end (l m : List UInt8) : (⟨l.toArray⟩ ++ ⟨#[99, 111, 104, 111, 114, 116, 58, 32, 101, 114, 114, 111, 114, 32]⟩ ++ ⟨m.toArray⟩ : ByteArray) = ⟨(l ++ ([99, 111, 104, 111, 114, 116, 58, 32, 101, 114, 114, 111, 114, 32] ++ m)).toArray⟩ := by
  apply ByteArray.ext; simp

set_option maxHeartbeats 8000000 in
theorem RText_any (B : Nat) (sl : Value) (l : List (ByteArray × Int)) (n : Int) (hn : (n == 0) = false) (hfn : fits n) (w : World) (hs : Steps w B sl l) (hB : B ≤ w.heap.size) (ht : PT w) (hlen : l.length ≤ 1000000) (hk : ∀ x ∈ l, fits x.2) (htl : (textL l).length ≤ 1099511627776) :
    Calls Tryd.prog 33 #[.int .i64 n, sl] w fun e w' => e = .returned (.string ⟨(textL l ++ errText n).toArray⟩) ∧ Below w.heap.size w w' := by
  obtain ⟨a, cap, rfl, hst⟩ := hs
  have HS := hideIt hst
  have HT := hideIt ht
  have HK := hideIt hk
  have HFN := hideIt hfn
  have hin := Lib.itoa_length_le n hfn.1 hfn.2
  clear hst ht hk hfn
  go_enter Tryd.func33, Tryd.ntmps33
  go_wp2
  go_loopw [5, 6] (fun v i wr => ∃ (k : Nat) (s : ByteArray), k ≤ l.length ∧ v = .string s ∧ i = .int .i64 k ∧ Hid (s.data.toList = textL (l.take k)) ∧ Hid (Below w.heap.size w wr)) (fun _ i _ => l.length - (intOf i).toNat)
  case atStart => exact ⟨0, ⟨#[]⟩, Nat.zero_le _, rfl, rfl, rfl, Below.refl _ _⟩
  case round =>
    obtain ⟨k, s, hk, rfl, rfl, HV, HX⟩ := hrel
    have hsz : s.size ≤ 1099511627776 := by
      rw [size_of HV.out]; exact Nat.le_trans (textL_take_le l k) htl
    by_cases hlt : k < l.length
    · obtain ⟨x, hx⟩ : ∃ x, l[k]? = some x := ⟨l[k], by simp [hlt]⟩
      obtain ⟨b, off, rfl, hbb, c0, c1⟩ := HS.out k x hx
      have d0 : wr.cell? ⟨b, off + k * 2, none⟩ = some (.string x.1) := (HX.out.cell (Nat.lt_of_lt_of_le hbb hB)).trans c0
      have d1 : wr.cell? ⟨b, off + k * 2 + 1, none⟩ = some (.int .i64 x.2) := (HX.out.cell (Nat.lt_of_lt_of_le hbb hB)).trans c1
      have hfx : fits x.2 := HK.out x (List.mem_of_getElem? hx)
      have hix := Lib.itoa_length_le x.2 hfx.1 hfx.2
      have hxs : x.1.size ≤ 1099511627776 := by
        have h1 := textL_take_le l (k + 1)
        rw [textL_take l k x hx] at h1
        simp [stepText] at h1
        have : x.1.data.size = x.1.size := rfl
        omega
      have HF := hideIt hfx
      have HXX := hideIt (textL_take l k x hx)
      have HT1 := hideIt (HT.out.kept HX.out HT.out.lt)
      have hbw : b < wr.heap.size := lt_of_cell d0
      clear c0 c1 hx hfx
      go_wp2
      go_region_with (go_at_call 65; refine (Itoa_any x.2 HF.out _ (HT1.out.kept (below_drew wr) HT1.out.lt)).mono ?_; rintro e w3 ⟨rfl, b3⟩; have d0' : w3.cell? ⟨b, off + k * 2, none⟩ = some (.string x.1) := (b3.cell (p := ⟨b, off + k * 2, none⟩) hbw).trans d0; have d1' : w3.cell? ⟨b, off + k * 2 + 1, none⟩ = some (.int .i64 x.2) := (b3.cell (p := ⟨b, off + k * 2 + 1, none⟩) hbw).trans d1; have HB3 := hideIt b3; clear b3)
      all_goals go_wp2
      all_goals exact ⟨⟨k + 1, _, by omega, rfl, by go_num, by rw [HXX.out, ← HV.out]; exact cat_eq s x, HX.out.drew.trans (HB3.out.mono HX.out.size)⟩, by simp [intOf]; omega⟩
    · have ek : k = l.length := by omega
      have HV2 : Hid (s.data.toList = textL l) := by
        have := HV.out; rw [ek, List.take_length] at this; exact this
      clear ek HV
      go_wp2_with fail
      refine (Itoa_any n HFN.out _ (HT.out.kept HX.out HT.out.lt)).mono ?_
      rintro e w3 ⟨rfl, b3⟩
      have HB3 := hideIt b3
      clear b3
      go_wp2
      go_ret
      exact ⟨congrArg (fun x => Ending.returned (.string x)) (by rw [bytes_of HV2.out]; exact cat_end _ _), HX.out.trans (HB3.out.mono HX.out.size)⟩
end Go.Proofs.YtaaaibnalhmmgaaDoor
