/-
  What is proved here: the texts that merkle asks the book for, and that unlike things have unlike ones; begun and ask, over this program.
-/
import Derived.Test.YtmhbfplaglipnaaGreatDoorMA
import Derived.Test.YtmhbfplaglipnaaGreatDoorWF
import Derived.Test.YtmhbfplaglipnaaGreatDoorBE
namespace Go.Proofs.YtmhbfplaglipnaaGreatDoor
open Go.RowKit Go.Extern.Stop Go.Stop Go.Extern

theorem be_inj (m n n' : Nat) (h : be m n = be m n') : n % 256 ^ m = n' % 256 ^ m := by
  induction m with
  | zero => simp [Nat.mod_one]
  | succ m ih =>
    simp only [be, List.cons.injEq] at h
    have h1 := ih h.2
    have h2 := congrArg UInt8.toNat h.1
    simp only [UInt8.toNat_ofNat'] at h2
    rw [Nat.pow_succ, Nat.mod_mul, Nat.mod_mul, h1]
    simp at h2
    rw [h2]
theorem textB_inj {s s' r r' : List UInt8} (h1 : s.length ≤ 65536) (h2 : s'.length ≤ 65536) (h : textB s ++ r = textB s' ++ r') : s = s' ∧ r = r' := by
  unfold textB at h
  rw [List.append_assoc, List.append_assoc] at h
  obtain ⟨h3, h4⟩ := List.append_inj h (by rw [be_length, be_length])
  have h5 := be_inj 4 _ _ h3
  have e : (256 : Nat) ^ 4 = 4294967296 := by decide
  rw [e] at h5
  exact List.append_inj h4 (by omega)
theorem numB_inj {n n' : Int} {r r' : List UInt8} (h1 : fits n) (h2 : fits n') (h : numB n ++ r = numB n' ++ r') : n = n' ∧ r = r' := by
  obtain ⟨h3, h4⟩ := List.append_inj h (by rw [numB_length, numB_length])
  refine ⟨?_, h4⟩
  have h5 := be_inj 8 _ _ h3
  have e : (256 : Nat) ^ 8 = 18446744073709551616 := by decide
  rw [e, Nat.mod_eq_of_lt (bits_lt n), Nat.mod_eq_of_lt (bits_lt n')] at h5
  unfold bits at h5
  unfold fits at h1 h2
  omega

/-- an entry: its key, its value, its version -/
abbrev Ent := List UInt8 × List UInt8 × Int
def okE (e : Ent) : Prop := e.1.length ≤ 16 ∧ e.2.1.length ≤ 64 ∧ fits e.2.2
def sLeaf : List UInt8 := [108, 101, 97, 102]
def sNode : List UInt8 := [110, 111, 100, 101]
def sRoot : List UInt8 := [114, 111, 111, 116]
def sNone : List UInt8 := [110, 111, 110, 101]
def leafT (e : Ent) : List UInt8 := textB sLeaf ++ (textB e.1 ++ (textB e.2.1 ++ numB e.2.2))
def nodeT (a b : Int) : List UInt8 := textB sNode ++ (numB a ++ numB b)
def rootT (a b : Int) : List UInt8 := textB sRoot ++ (numB a ++ numB b)
def noneT : List UInt8 := textB sNone
theorem leafT_inj {e e' : Ent} (h1 : okE e) (h2 : okE e') (h : leafT e = leafT e') : e = e' := by
  obtain ⟨k, v, n⟩ := e
  obtain ⟨k', v', n'⟩ := e'
  obtain ⟨a1, a2, a3⟩ := h1
  obtain ⟨b1, b2, b3⟩ := h2
  simp only at a1 a2 a3 b1 b2 b3
  unfold leafT at h
  obtain ⟨_, h⟩ := textB_inj (by decide) (by decide) h
  obtain ⟨rfl, h⟩ := textB_inj (by simp only; omega) (by simp only; omega) h
  obtain ⟨rfl, h⟩ := textB_inj (by simp only; omega) (by simp only; omega) h
  obtain ⟨rfl, _⟩ := numB_inj (r := []) (r' := []) a3 b3 (by simpa using h)
  rfl
theorem nodeT_inj {a b a' b' : Int} (h1 : fits a ∧ fits b) (h2 : fits a' ∧ fits b') (h : nodeT a b = nodeT a' b') : a = a' ∧ b = b' := by
  unfold nodeT at h
  obtain ⟨_, h⟩ := textB_inj (by decide) (by decide) h
  obtain ⟨h3, h⟩ := numB_inj h1.1 h2.1 h
  obtain ⟨h4, _⟩ := numB_inj (r := []) (r' := []) h1.2 h2.2 (by simpa using h)
  exact ⟨h3, h4⟩
theorem rootT_inj {a b a' b' : Int} (h1 : fits a ∧ fits b) (h2 : fits a' ∧ fits b') (h : rootT a b = rootT a' b') : a = a' ∧ b = b' := by
  unfold rootT at h
  obtain ⟨_, h⟩ := textB_inj (by decide) (by decide) h
  obtain ⟨h3, h⟩ := numB_inj h1.1 h2.1 h
  obtain ⟨h4, _⟩ := numB_inj (r := []) (r' := []) h1.2 h2.2 (by simpa using h)
  exact ⟨h3, h4⟩
theorem leafT_len {e : Ent} (h : okE e) : (leafT e).length ≤ 1000 := by
  obtain ⟨a1, a2, _⟩ := h
  unfold leafT
  simp only [List.length_append, textB_length, numB_length, sLeaf, List.length_cons, List.length_nil]; omega
theorem nodeT_len (a b : Int) : (nodeT a b).length ≤ 1000 := by
  unfold nodeT
  simp only [List.length_append, textB_length, numB_length, sNode, List.length_cons, List.length_nil]; omega
theorem rootT_len (a b : Int) : (rootT a b).length ≤ 1000 := by
  unfold rootT
  simp only [List.length_append, textB_length, numB_length, sRoot, List.length_cons, List.length_nil]; omega

theorem new_writer (w : World) : WSt (w.alloc (.cells #[.pointer none, .int .i64 0, .nilIface] 128)) w.heap.size (fun k => k ≠ w.heap.size) ([], false) :=
  ⟨fun j => World.frozen?_alloc_at _ _ _ _ rfl, none, [], by rw [World.cell?_alloc_at _ _ _ _ rfl]; rfl, by rw [World.cell?_alloc_at _ _ _ _ rfl]; rfl, by rw [World.cell?_alloc_at _ _ _ _ rfl]; rfl, rfl, rfl⟩
theorem put_text (bs s : List UInt8) (h : s.length ≤ 65536) : put (bs, false) (textO s) = (bs ++ textB s, false) := by
  unfold put textO; rw [if_neg (show ¬ 65536 < s.length by omega)]; rfl
theorem put_num (bs : List UInt8) (n : Int) : put (bs, false) (some (numB n)) = (bs ++ numB n, false) := rfl

/-- the bytes of a text, just made -/
theorem conv_bytes (w : World) (s : List UInt8) (cap : Nat) : BytesIn (Lib.bytesWorld w 5 ⟨s.toArray⟩) (fun k => k = w.heap.size) (.slice (some ⟨w.heap.size, 0, none⟩) s.length cap) s ∧ Below w.heap.size w (Lib.bytesWorld w 5 ⟨s.toArray⟩) := by
  have e0 : (⟨s.toArray⟩ : ByteArray).size = s.length := by simp [ByteArray.size]
  have hsz := Lib.bytesWorld_size w 5 ⟨s.toArray⟩
  refine ⟨⟨some ⟨w.heap.size, 0, none⟩, cap, rfl, (fun e => nomatch e), fun k x hx => ⟨w.heap.size, 0, rfl, rfl, ?_⟩⟩, rfl, rfl, rfl, by rw [hsz]; omega, fun k hk => Lib.bytesWorld_at_old w 5 _ k hk⟩
  simp only [Lib.byteCells, List.getElem?_map, Option.map_eq_some_iff] at hx
  obtain ⟨y, hy, rfl⟩ := hx
  have hk : k < s.length := (List.getElem?_eq_some_iff.1 hy).1
  rw [Nat.zero_add, Lib.bytesWorld_cell w 5 ⟨s.toArray⟩ k (by rw [e0]; exact hk)]
  simp [hy, List.getD]

set_option maxRecDepth 100000 in
set_option maxHeartbeats 8000000 in
theorem begun_any (w : World) (s : List UInt8) (A : Nat → Prop) (v : Value) (l : List Int) (hv : NumsIn w A v l) (hs : s.length ≤ 100) (hl : l.length ≤ 100) :
    Calls Tryz.prog 48 #[.string ⟨s.toArray⟩, v] w fun e w' => ∃ p, e = .returned (.pointer (some ⟨p, 0, none⟩)) ∧ w.heap.size ≤ p ∧ WSt w' p (fun k => k ≠ p) (textB s ++ l.flatMap numB, false) ∧ Below w.heap.size w w' := by
  have HV := hideIt (hv.mono (A' := (· < w.heap.size)) (fun _ _ h => h))
  have HS := hideIt hs
  have HL := hideIt hl
  obtain ⟨a, cap, rfl⟩ := hv.form
  have hcv := fun w : World => Lib.run_convert_string_bytes (P := Tryz.prog) w 9 75 5 ⟨s.toArray⟩ Tryz.underlying9 Tryz.underlying75 Tryz.underlying5
  clear hv
  have HB1 : Hid (Below w.heap.size w (w.alloc (.cells #[.pointer none, .int .i64 0, .nilIface] 128))) := hideIt ((Below.refl _ _).alloc (Nat.le_refl _) _)
  have HS1 : Hid ((w.alloc (.cells #[.pointer none, .int .i64 0, .nilIface] 128)).heap.size = w.heap.size + 1) := hideIt (by simp)
  have HW1 := hideIt (new_writer w)
  go_enter Tryz.func48, Tryz.ntmps48
  go_wp2_with fail
  generalize w.alloc (.cells #[.pointer none, .int .i64 0, .nilIface] 128) = W1 at HB1 HW1 HS1 ⊢
  have hc := conv_bytes W1 s (grownCap W1 s.length 0 5)
  rw [HS1.out] at hc
  generalize Lib.bytesWorld W1 5 ⟨s.toArray⟩ = W2 at hc ⊢
  obtain ⟨hc1, hc2⟩ := hc
  have HC := hideIt hc1
  have HB2 := hideIt (HB1.out.trans (hc2.mono (by omega)))
  have HW2 := hideIt (kept_below HW1.out (hc2.mono (by rw [HS1.out]; omega)))
  clear hc1 hc2 HB1 HW1
  refine (wText_any _ _ _ ([], false) _ s W2 HW2.out HC.out (by unfold maxLen; omega) (fun k hk => by have := HW2.out.lt; omega) (fun h => h rfl) (by simp)).mono ?_
  rw [put_text [] s (by omega)]
  rintro e w3 ⟨rfl, hw3, hg3⟩
  have HW3 : Hid (WSt w3 w.heap.size (fun k => k ≠ w.heap.size) (textB s ++ (l.take 0).flatMap numB, false)) := by simpa using hideIt hw3
  have HB3 := hideIt (HB2.out.grown hg3 HB2.out.size (fun k hk => by injection hk with hk; omega))
  clear hw3 hg3 HW2 HB2 HC hcv
  have HNE : Hid (0 + w.heap.size = w.heap.size) := by simp [Hid]
  go_wp2
  go_loopw [16] (fun i wr => ∃ k : Nat, k ≤ l.length ∧ i = .int .i64 k ∧ Hid (WSt wr w.heap.size (fun k => k ≠ w.heap.size) (textB s ++ (l.take k).flatMap numB, false)) ∧ Hid (Below w.heap.size w wr) ∧ Hid (w.heap.size < wr.heap.size)) (fun i _ => l.length - (intOf i).toNat)
  case atStart => exact ⟨0, Nat.zero_le _, rfl, HW3, HB3.out, HW3.out.lt⟩
  case round =>
    clear HW3 HB3
    obtain ⟨k, hk, rfl, HW, HB, HLT⟩ := hrel
    by_cases hlt : k < l.length
    · obtain ⟨x, hx⟩ : ∃ x, l[k]? = some x := ⟨l[k], by simp [hlt]⟩
      obtain ⟨b, off, rfl, hb, hc⟩ := NumsIn.at (RowIn.kept HV.out (Kept.of_below HB.out (fun _ h _ => h))) hx
      have HT := hideIt (flat_take numB l k x hx)
      have hlen := flat_len numB 8 (l.take k) (fun y _ => by rw [numB_length]; omega)
      have htk : (l.take k).length ≤ 100 := by simp; have := HL.out; omega
      have HLN : Hid ((textB s ++ (l.take k).flatMap numB).length ≤ 100000000) := by
        have h4 : (textB s ++ (l.take k).flatMap numB).length ≤ 100000000 := by rw [List.length_append, textB_length]; have := HS.out; omega
        exact h4
      have hl2 : ¬ (l.length : Int) ≤ (k : Int) := by omega
      clear hx hlen htk
      go_wp2_with fail
      refine (wNum_any w.heap.size _ _ x wr HW.out (fun j hj => by have := HLT.out; omega) (fun h => h rfl) (by have := HLN.out; exact Nat.le_trans this (by decide))).mono ?_
      rw [put_num]
      rintro e w2 ⟨rfl, hw2, hg2⟩
      have HW2 : Hid (WSt w2 w.heap.size (fun k => k ≠ w.heap.size) (textB s ++ (l.take (k + 1)).flatMap numB, false)) := by rw [HT.out, ← List.append_assoc]; exact hideIt hw2
      have HB2 := hideIt (HB.out.grown hg2 HB.out.size (fun k hk => by injection hk with hk; omega))
      clear hw2 hg2
      go_wp2
      go_roundw
      case rel => exact ⟨k + 1, by omega, by go_num, HW2, HB2.out, HW2.out.lt⟩
      case measure => simp [intOf]; omega
    · have ek : k = l.length := by omega
      have HW2 : Hid (WSt wr w.heap.size (fun k => k ≠ w.heap.size) (textB s ++ l.flatMap numB, false)) := by
        have := HW.out; rw [ek, List.take_length] at this; exact this
      clear ek HW
      go_wp2
      go_ret
      exact ⟨_, rfl, Nat.le_refl _, HW2.out, HB.out⟩

set_option maxRecDepth 100000 in
set_option maxHeartbeats 8000000 in
theorem ask_any (w : World) (p q : Nat) (O A : Nat → Prop) (T : List (List UInt8)) (s : List UInt8) (h : BookSt w p O T) (hw : WSt w q A (s, false)) (hs : s.length ≤ 65536) (hl : T.length < 65536) :
    Calls Tryz.prog 47 #[.pointer (some ⟨p, 0, none⟩), .pointer (some ⟨q, 0, none⟩)] w fun e w' => ∃ (d : Nat) (O' : Nat → Prop), e = .returned (.tuple #[.int .i64 d, .nilIface]) ∧ (comes T s)[d]? = some s ∧ BookSt w' p O' (comes T s) ∧ Turn O w w' ∧ ∀ k, O' k → (O k ∨ w.heap.size ≤ k) ∧ k < w'.heap.size := by
  have H := hideIt h
  have HW : Hid (WOk w q A s) := hw
  have HL := hideIt (And.intro hs hl)
  clear h hw hs hl
  go_enter Tryz.func47, Tryz.ntmps47
  go_wp2_with fail
  refine (wBytes_ok q A s w HW.out (by have := HL.out.1; omega)).mono ?_
  rintro e w1 ⟨v, rfl, ho, hb⟩
  obtain ⟨a, cap, rfl⟩ := own_form ho
  have HB := hideIt hb
  have HO : Hid (BytesIn w1 (w.heap.size ≤ ·) (.slice a s.length cap) s) := RowIn.of_own ho (fun _ h => h)
  have H1 := hideIt (H.out.kept (Kept.of_all hb))
  clear ho hb
  go_wp2_with fail
  refine (bDigest_ok w1 p O _ T _ s H1.out HO.out HL.out.1 HL.out.2).mono ?_
  rintro e w2 ⟨d, O', rfl, h1, h2, h3, h4⟩
  have HE := hideIt (And.intro h1 (And.intro h2 (And.intro h3 h4)))
  clear h1 h2 h3 h4 H1 HO
  go_wp2_with fail
  refine (Wrap_nil _ _ w2).mono ?_
  rintro e w3 ⟨rfl, rfl⟩
  go_wp2
  go_ret2
  obtain ⟨h1, h2, h3, h4⟩ := HE.out
  have hsz := HB.out.size
  exact ⟨d, O', rfl, h1, h2, (Turn.of_below HB.out).trans h3 (fun k hk => Or.inl hk), fun k hk => ⟨(h4 k hk).1.imp id (fun h => by omega), (h4 k hk).2⟩⟩
end Go.Proofs.YtmhbfplaglipnaaGreatDoor
