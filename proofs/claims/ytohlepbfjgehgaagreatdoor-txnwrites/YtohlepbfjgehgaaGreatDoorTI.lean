/-
  What is proved here: a transaction's bytes are written; over this program.
-/
import Derived.Test.YtohlepbfjgehgaaGreatDoorTH
import Derived.Test.YtohlepbfjgehgaaGreatDoorJ3
namespace Go.Proofs.YtohlepbfjgehgaaGreatDoor
open Go.RowKit Go.Extern.Stop Go.Stop Go.Extern

theorem tconv_bytes (w : World) (s : List UInt8) (cap : Nat) : BytesIn (Lib.bytesWorld w 5 ⟨s.toArray⟩) (fun k => k = w.heap.size) (.slice (some ⟨w.heap.size, 0, none⟩) s.length cap) s ∧ Below w.heap.size w (Lib.bytesWorld w 5 ⟨s.toArray⟩) := by
  have e0 : (⟨s.toArray⟩ : ByteArray).size = s.length := by simp [ByteArray.size]
  have hsz := Lib.bytesWorld_size w 5 ⟨s.toArray⟩
  refine ⟨⟨some ⟨w.heap.size, 0, none⟩, cap, rfl, (fun e => nomatch e), fun k x hx => ⟨w.heap.size, 0, rfl, rfl, ?_⟩⟩, rfl, rfl, rfl, by rw [hsz]; omega, fun k hk => Lib.bytesWorld_at_old w 5 _ k hk⟩
  simp only [Lib.byteCells, List.getElem?_map, Option.map_eq_some_iff] at hx
  obtain ⟨y, hy, rfl⟩ := hx
  have hk : k < s.length := (List.getElem?_eq_some_iff.1 hy).1
  rw [Nat.zero_add, Lib.bytesWorld_cell w 5 ⟨s.toArray⟩ k (by rw [e0]; exact hk)]
  simp [hy, List.getD]
theorem tput_text (bs s : List UInt8) (h : s.length ≤ 65536) : put (bs, false) (textO s) = (bs ++ textB s, false) := by
  unfold put textO; rw [if_neg (show ¬ 65536 < s.length by omega)]; rfl
theorem tput_num (bs : List UInt8) (n : Int) : put (bs, false) (some (numB n)) = (bs ++ numB n, false) := rfl
theorem tnew_writer (w : World) : WSt (w.alloc (.cells #[.pointer none, .int .i64 0, .nilIface] 75)) w.heap.size (fun k => k ≠ w.heap.size) ([], false) :=
  ⟨fun j => World.frozen?_alloc_at _ _ _ _ rfl, none, [], by rw [World.cell?_alloc_at _ _ _ _ rfl]; rfl, by rw [World.cell?_alloc_at _ _ _ _ rfl]; rfl, by rw [World.cell?_alloc_at _ _ _ _ rfl]; rfl, rfl, rfl⟩
theorem tgrown_cell {w w' : World} {p : Nat} (h : w.grownBy w' (some p)) {a : Addr} {v : Value} (hc : w.cell? a = some v) (hne : a.block ≠ p) : w'.cell? a = some v :=
  (World.cell?_of_block (h.block a.block (lt_of_cell hc) (fun e => hne (by injection e)))).trans hc
theorem tText_conv (w : World) (q cap : Nat) (bs s : List UInt8) (hw : WSt w q (fun k => k ≠ q) (bs, false)) (hs : s.length ≤ 1000) (hl : bs.length ≤ 100000) :
    Calls Tryz.prog 34 #[.pointer (some ⟨q, 0, none⟩), .slice (some ⟨w.heap.size, 0, none⟩) s.length cap] (Lib.bytesWorld w 5 ⟨s.toArray⟩) fun e w' => e = .returned (.tuple #[]) ∧ WSt w' q (fun k => k ≠ q) (bs ++ textB s, false) ∧ w.grownBy w' (some q) := by
  obtain ⟨hc1, hc2⟩ := tconv_bytes w s cap
  have hq := hw.lt
  have hsz := hc2.size
  refine (wText_any q _ _ (bs, false) _ s _ (kept_below hw hc2) hc1 (by unfold maxLen; omega) (fun k hk => by omega) (fun h => h rfl) (by simp only; omega)).mono ?_
  rw [tput_text bs s (by omega)]
  rintro e w3 ⟨rfl, hw3, hg3⟩
  exact ⟨rfl, hw3, grown_trans (grown_below hc2 _) hg3⟩

def rdB (x : Rd) : List UInt8 := textB x.1 ++ numB x.2
def rdShort (x : Rd) : Prop := x.1.length ≤ 16
theorem rdB_len {x : Rd} (h : rdShort x) : (rdB x).length ≤ 100 := by
  unfold rdShort at h
  unfold rdB
  rw [List.length_append, textB_length, numB_length]
  omega
def rowR (l : List Rd) : List UInt8 := numB (l.length : Int) ++ l.flatMap rdB
theorem rowR_len {l : List Rd} (hl : l.length ≤ 8) (h : ∀ x ∈ l, rdShort x) : (rowR l).length ≤ 808 := by
  have := flat_len rdB 100 l (fun x hx => rdB_len (h x hx))
  unfold rowR
  rw [List.length_append, numB_length]
  have h2 : l.length * 100 ≤ 8 * 100 := Nat.mul_le_mul_right _ hl
  omega
set_option maxRecDepth 100000 in
set_option maxHeartbeats 8000000 in
theorem txPuA_any (x : Rd) (hx : rdShort x) (p q : Nat) (bs : List UInt8) (w : World) (hq : w.cell? ⟨q, 0, none⟩ = some (.pointer (some ⟨p, 0, none⟩))) (hw : WSt w p (fun k => k ≠ p) (bs, false)) (hl : bs.length ≤ 10000) :
    Calls Tryz.prog 30 (#[rdV x] ++ #[.pointer (some ⟨q, 0, none⟩)]) w fun e w' => e = .returned (.tuple #[]) ∧ WSt w' p (fun k => k ≠ p) (bs ++ numB x.2, false) ∧ w.grownBy w' (some p) := by
  unfold rdV
  unfold rdShort at hx
  obtain ⟨W, hW, hwb, hws, c0, c1⟩ := room2 w 54 (.string ⟨x.1.toArray⟩) (.int .i64 x.2)
  have d0 := (hwb.cell (lt_of_cell hq)).trans hq
  have HW := hideIt (kept_below hw hwb)
  have HWB := hideIt hwb
  have HX := hideIt hx
  clear hw hwb hws hx
  subst hW
  go_enter Tryz.func30, Tryz.ntmps30
  go_wp2_with fail
  clear c0 c1 d0 hq
  refine (wNum_any p _ _ x.2 _ HW.out (fun k hk => by have := HW.out.lt; omega) (fun h => h rfl) (by simp only; omega)).mono ?_
  rw [tput_num]
  rintro e w3 ⟨rfl, hw3, hg3⟩
  have HW3 := hideIt hw3
  have HG3 := hideIt (grown_trans (grown_below HWB.out _) hg3)
  clear hw3 hg3
  go_wp2
  go_end0
  exact ⟨rfl, HW3.out, HG3.out⟩
set_option maxRecDepth 100000 in
set_option maxHeartbeats 16000000 in
theorem txpaR_any (w : World) (p q : Nat) (bs : List UInt8) (v : Value) (l : List Rd) (hv : RdsIn w (fun k => k ≠ p) v l) (hq : w.cell? ⟨q, 0, none⟩ = some (.pointer (some ⟨p, 0, none⟩))) (hqp : q ≠ p) (hw : WSt w p (fun k => k ≠ p) (bs, false))
    (hb : bs.length ≤ 1000) (hl : l.length ≤ 8) (hx : ∀ x ∈ l, rdShort x) :
    Calls Tryz.prog 28 #[.pointer (some ⟨p, 0, none⟩), v, .func (.func 29) #[] #[], .func (.func 30) #[] #[.pointer (some ⟨q, 0, none⟩)]] w fun e w' => e = .returned (.tuple #[]) ∧ WSt w' p (fun k => k ≠ p) (bs ++ rowR l, false) ∧ w.grownBy w' (some p) := by
  have hcv := fun (w : World) (s : List UInt8) => Lib.run_convert_string_bytes (P := Tryz.prog) w 9 26 5 ⟨s.toArray⟩ Tryz.underlying9 Tryz.underlying26 Tryz.underlying5
  have HV := hideIt hv
  have HW := hideIt hw
  have HQ := hideIt hq
  have HX := hideIt hx
  obtain ⟨a, cap, rfl⟩ := RdsIn.form hv
  have HB := hideIt hb
  clear hv hw hq hx hb
  go_enter Tryz.func28, Tryz.ntmps28
  go_wp2_with fail
  refine (wNum_any p _ _ (l.length : Int) w HW.out (fun k hk => by have := HW.out.lt; omega) (fun h => h rfl) (by simp only; have := HB.out; omega)).mono ?_
  rw [tput_num]
  rintro e w1 ⟨rfl, hw1, hg1⟩
  have HW1 := hideIt hw1
  have HG1 := hideIt hg1
  clear hw1 hg1 HW
  go_wp2
  go_loopw [16] (fun i wr => ∃ k : Nat, k ≤ l.length ∧ i = .int .i64 k ∧ Hid (WSt wr p (fun k => k ≠ p) (bs ++ numB (l.length : Int) ++ (l.take k).flatMap rdB, false)) ∧ Hid (w.grownBy wr (some p))) (fun i _ => l.length - (intOf i).toNat)
  case atStart => exact ⟨0, Nat.zero_le _, rfl, by simpa using HW1, HG1.out⟩
  case round =>
    obtain ⟨k, hk, rfl, HWr, HG⟩ := hrel
    by_cases hlt : k < l.length
    · obtain ⟨x, hxx⟩ : ∃ x, l[k]? = some x := ⟨l[k], by simp [hlt]⟩
      have HVr := hideIt (RowIn.kept HV.out (Kept.of_grown HG.out (fun h => h rfl)))
      obtain ⟨b, off, rfl, _, c0, c1⟩ := RdsIn.at HVr.out hxx
      have HSH := hideIt (HX.out x (List.mem_of_getElem? hxx))
      have HFL := hideIt (flat_take rdB l k x hxx)
      have hlen : (bs ++ numB (l.length : Int) ++ (l.take k).flatMap rdB).length ≤ 2000 := by
        have h1 := flat_len rdB 100 (l.take k) (fun x hx => rdB_len (HX.out x (List.mem_of_mem_take hx)))
        have h2 : (l.take k).length * 100 ≤ 8 * 100 := Nat.mul_le_mul_right _ (by rw [List.length_take]; omega)
        have h3 := HB.out
        rw [List.length_append, List.length_append, numB_length]
        omega
      obtain ⟨ac, hac⟩ : ∃ ac, ac = bs ++ numB (l.length : Int) ++ (l.take k).flatMap rdB := ⟨_, rfl⟩
      rw [← hac] at HWr hlen
      have HAC : Hid (bs ++ numB (l.length : Int) ++ (l.take (k + 1)).flatMap rdB = ac ++ textB x.1 ++ numB x.2) := hideIt (by rw [hac, HFL.out]; simp [rdB])
      obtain ⟨W, hW, hwb, hws, d0, d1⟩ := room2 wr 54 (.string ⟨x.1.toArray⟩) (.int .i64 x.2)
      have HWW := hideIt (kept_below HWr.out hwb)
      have HGW := hideIt (grown_then HG.out (hwb.mono HG.out.size))
      have HC := hideIt (txreadKey_any x W)
      unfold rdV at HC
      have hpl : p < wr.heap.size := HWr.out.lt
      have hne : wr.heap.size ≠ p := by omega
      clear hxx HVr hwb HFL hac HWr
      go_wp2_with fail
      rw [← hW]
      clear hW
      refine HC.out.mono ?_
      rintro e w3 ⟨rfl, hb3⟩
      have HW3 := hideIt (kept_below HWW.out hb3)
      have HG3 := hideIt (grown_then HGW.out (hb3.mono HGW.out.size))
      have e0 := (hb3.cell (lt_of_cell d0)).trans d0
      have e1 := (hb3.cell (lt_of_cell d1)).trans d1
      clear hb3 c0 c1 d0 d1 HC HWW HGW hws
      go_wp2_with fail
      refine (tText_conv w3 p _ ac x.1 HW3.out (by have := HSH.out; unfold rdShort at this; omega) (by omega)).mono ?_
      rintro e w4 ⟨rfl, hw4, hg4⟩
      have HW4 := hideIt hw4
      have HG4 := hideIt (grown_trans HG3.out hg4)
      have d0 := tgrown_cell hg4 e0 hne
      have d1 := tgrown_cell hg4 e1 hne
      have HC4 := hideIt (txPuA_any x HSH.out p q (ac ++ textB x.1) w4 (tgrown_cell HG4.out HQ.out hqp) HW4.out (by have := HSH.out; unfold rdShort at this; rw [List.length_append, textB_length]; omega))
      unfold rdV at HC4
      clear hw4 hg4 e0 e1 HW3 HG3
      go_wp2_with fail
      refine HC4.out.mono ?_
      rintro e w5 ⟨rfl, hw5, hg5⟩
      have HW5 := hideIt hw5
      rw [← HAC.out] at HW5
      have HG5 := hideIt (grown_trans HG4.out hg5)
      clear hw5 hg5 d0 d1
      go_wp2
      go_roundw
      case rel => exact ⟨k + 1, by omega, by go_num, HW5.out, HG5.out⟩
      case measure => simp [intOf]; omega
    · have HWE : Hid (WSt wr p (fun k => k ≠ p) (bs ++ rowR l, false)) := hideIt (by
        have := HWr.out
        rw [show k = l.length by omega, List.take_length] at this
        unfold rowR
        rw [← List.append_assoc]
        exact this)
      clear HWr
      go_wp2
      go_end0
      exact ⟨rfl, HWE.out, HG.out⟩
def wrB (x : Wr) : List UInt8 := textB x.1 ++ textB x.2
def wrShort (x : Wr) : Prop := x.1.length ≤ 16 ∧ x.2.length ≤ 64
theorem wrB_len {x : Wr} (h : wrShort x) : (wrB x).length ≤ 100 := by
  unfold wrShort at h
  unfold wrB
  rw [List.length_append, textB_length, textB_length]
  omega
def rowW (l : List Wr) : List UInt8 := numB (l.length : Int) ++ l.flatMap wrB
theorem rowW_len {l : List Wr} (hl : l.length ≤ 8) (h : ∀ x ∈ l, wrShort x) : (rowW l).length ≤ 808 := by
  have := flat_len wrB 100 l (fun x hx => wrB_len (h x hx))
  unfold rowW
  rw [List.length_append, numB_length]
  have h2 : l.length * 100 ≤ 8 * 100 := Nat.mul_le_mul_right _ hl
  omega
set_option maxRecDepth 100000 in
set_option maxHeartbeats 8000000 in
theorem txPuB_any (x : Wr) (hx : wrShort x) (p q : Nat) (bs : List UInt8) (w : World) (hq : w.cell? ⟨q, 0, none⟩ = some (.pointer (some ⟨p, 0, none⟩))) (hw : WSt w p (fun k => k ≠ p) (bs, false)) (hl : bs.length ≤ 10000) :
    Calls Tryz.prog 33 (#[wrV x] ++ #[.pointer (some ⟨q, 0, none⟩)]) w fun e w' => e = .returned (.tuple #[]) ∧ WSt w' p (fun k => k ≠ p) (bs ++ textB x.2, false) ∧ w.grownBy w' (some p) := by
  unfold wrV
  unfold wrShort at hx
  have hcv := fun (w : World) (s : List UInt8) => Lib.run_convert_string_bytes (P := Tryz.prog) w 9 26 5 ⟨s.toArray⟩ Tryz.underlying9 Tryz.underlying26 Tryz.underlying5
  obtain ⟨W, hW, hwb, hws, c0, c1⟩ := room2 w 48 (.string ⟨x.1.toArray⟩) (.string ⟨(x.2).toArray⟩)
  have d0 := (hwb.cell (lt_of_cell hq)).trans hq
  have HW := hideIt (kept_below hw hwb)
  have HWB := hideIt hwb
  have HX := hideIt hx
  clear hw hwb hws hx
  subst hW
  go_enter Tryz.func33, Tryz.ntmps33
  go_wp2_with fail
  clear c0 c1 d0 hq
  have hcc := fun cap => tText_conv (w.alloc (.cells #[.string ⟨x.1.toArray⟩, .string ⟨x.2.toArray⟩] 48)) p cap bs x.2 HW.out (by have := HX.out; omega) (by omega)
  rw [World.size_alloc] at hcc
  refine (hcc _).mono ?_
  rintro e w3 ⟨rfl, hw3, hg3⟩
  have HW3 := hideIt hw3
  have HG3 := hideIt (grown_trans (grown_below HWB.out _) hg3)
  clear hw3 hg3
  go_wp2
  go_end0
  exact ⟨rfl, HW3.out, HG3.out⟩
set_option maxRecDepth 100000 in
set_option maxHeartbeats 16000000 in
theorem txpaW_any (w : World) (p q : Nat) (bs : List UInt8) (v : Value) (l : List Wr) (hv : WrsIn w (fun k => k ≠ p) v l) (hq : w.cell? ⟨q, 0, none⟩ = some (.pointer (some ⟨p, 0, none⟩))) (hqp : q ≠ p) (hw : WSt w p (fun k => k ≠ p) (bs, false))
    (hb : bs.length ≤ 1000) (hl : l.length ≤ 8) (hx : ∀ x ∈ l, wrShort x) :
    Calls Tryz.prog 31 #[.pointer (some ⟨p, 0, none⟩), v, .func (.func 32) #[] #[], .func (.func 33) #[] #[.pointer (some ⟨q, 0, none⟩)]] w fun e w' => e = .returned (.tuple #[]) ∧ WSt w' p (fun k => k ≠ p) (bs ++ rowW l, false) ∧ w.grownBy w' (some p) := by
  have hcv := fun (w : World) (s : List UInt8) => Lib.run_convert_string_bytes (P := Tryz.prog) w 9 26 5 ⟨s.toArray⟩ Tryz.underlying9 Tryz.underlying26 Tryz.underlying5
  have HV := hideIt hv
  have HW := hideIt hw
  have HQ := hideIt hq
  have HX := hideIt hx
  obtain ⟨a, cap, rfl⟩ := WrsIn.form hv
  have HB := hideIt hb
  clear hv hw hq hx hb
  go_enter Tryz.func31, Tryz.ntmps31
  go_wp2_with fail
  refine (wNum_any p _ _ (l.length : Int) w HW.out (fun k hk => by have := HW.out.lt; omega) (fun h => h rfl) (by simp only; have := HB.out; omega)).mono ?_
  rw [tput_num]
  rintro e w1 ⟨rfl, hw1, hg1⟩
  have HW1 := hideIt hw1
  have HG1 := hideIt hg1
  clear hw1 hg1 HW
  go_wp2
  go_loopw [16] (fun i wr => ∃ k : Nat, k ≤ l.length ∧ i = .int .i64 k ∧ Hid (WSt wr p (fun k => k ≠ p) (bs ++ numB (l.length : Int) ++ (l.take k).flatMap wrB, false)) ∧ Hid (w.grownBy wr (some p))) (fun i _ => l.length - (intOf i).toNat)
  case atStart => exact ⟨0, Nat.zero_le _, rfl, by simpa using HW1, HG1.out⟩
  case round =>
    obtain ⟨k, hk, rfl, HWr, HG⟩ := hrel
    by_cases hlt : k < l.length
    · obtain ⟨x, hxx⟩ : ∃ x, l[k]? = some x := ⟨l[k], by simp [hlt]⟩
      have HVr := hideIt (RowIn.kept HV.out (Kept.of_grown HG.out (fun h => h rfl)))
      obtain ⟨b, off, rfl, _, c0, c1⟩ := WrsIn.at HVr.out hxx
      have HSH := hideIt (HX.out x (List.mem_of_getElem? hxx))
      have HFL := hideIt (flat_take wrB l k x hxx)
      have hlen : (bs ++ numB (l.length : Int) ++ (l.take k).flatMap wrB).length ≤ 2000 := by
        have h1 := flat_len wrB 100 (l.take k) (fun x hx => wrB_len (HX.out x (List.mem_of_mem_take hx)))
        have h2 : (l.take k).length * 100 ≤ 8 * 100 := Nat.mul_le_mul_right _ (by rw [List.length_take]; omega)
        have h3 := HB.out
        rw [List.length_append, List.length_append, numB_length]
        omega
      obtain ⟨ac, hac⟩ : ∃ ac, ac = bs ++ numB (l.length : Int) ++ (l.take k).flatMap wrB := ⟨_, rfl⟩
      rw [← hac] at HWr hlen
      have HAC : Hid (bs ++ numB (l.length : Int) ++ (l.take (k + 1)).flatMap wrB = ac ++ textB x.1 ++ textB x.2) := hideIt (by rw [hac, HFL.out]; simp [wrB])
      obtain ⟨W, hW, hwb, hws, d0, d1⟩ := room2 wr 48 (.string ⟨x.1.toArray⟩) (.string ⟨(x.2).toArray⟩)
      have HWW := hideIt (kept_below HWr.out hwb)
      have HGW := hideIt (grown_then HG.out (hwb.mono HG.out.size))
      have HC := hideIt (txwriteKey_any x W)
      unfold wrV at HC
      have hpl : p < wr.heap.size := HWr.out.lt
      have hne : wr.heap.size ≠ p := by omega
      clear hxx HVr hwb HFL hac HWr
      go_wp2_with fail
      rw [← hW]
      clear hW
      refine HC.out.mono ?_
      rintro e w3 ⟨rfl, hb3⟩
      have HW3 := hideIt (kept_below HWW.out hb3)
      have HG3 := hideIt (grown_then HGW.out (hb3.mono HGW.out.size))
      have e0 := (hb3.cell (lt_of_cell d0)).trans d0
      have e1 := (hb3.cell (lt_of_cell d1)).trans d1
      clear hb3 c0 c1 d0 d1 HC HWW HGW hws
      go_wp2_with fail
      refine (tText_conv w3 p _ ac x.1 HW3.out (by have := HSH.out; unfold wrShort at this; omega) (by omega)).mono ?_
      rintro e w4 ⟨rfl, hw4, hg4⟩
      have HW4 := hideIt hw4
      have HG4 := hideIt (grown_trans HG3.out hg4)
      have d0 := tgrown_cell hg4 e0 hne
      have d1 := tgrown_cell hg4 e1 hne
      have HC4 := hideIt (txPuB_any x HSH.out p q (ac ++ textB x.1) w4 (tgrown_cell HG4.out HQ.out hqp) HW4.out (by have := HSH.out; unfold wrShort at this; rw [List.length_append, textB_length]; omega))
      unfold wrV at HC4
      clear hw4 hg4 e0 e1 HW3 HG3
      go_wp2_with fail
      refine HC4.out.mono ?_
      rintro e w5 ⟨rfl, hw5, hg5⟩
      have HW5 := hideIt hw5
      rw [← HAC.out] at HW5
      have HG5 := hideIt (grown_trans HG4.out hg5)
      clear hw5 hg5 d0 d1
      go_wp2
      go_roundw
      case rel => exact ⟨k + 1, by omega, by go_num, HW5.out, HG5.out⟩
      case measure => simp [intOf]; omega
    · have HWE : Hid (WSt wr p (fun k => k ≠ p) (bs ++ rowW l, false)) := hideIt (by
        have := HWr.out
        rw [show k = l.length by omega, List.take_length] at this
        unfold rowW
        rw [← List.append_assoc]
        exact this)
      clear HWr
      go_wp2
      go_end0
      exact ⟨rfl, HWE.out, HG.out⟩
end Go.Proofs.YtohlepbfjgehgaaGreatDoor
