/-
  What is proved here: book's Digest and Text, over this program.
-/
import Derived.Test.YtmhbfplaglipnaaGreatDoorBB
namespace Go.Proofs.YtmhbfplaglipnaaGreatDoor
open Go.RowKit Go.Extern.Stop Go.Stop Go.Extern

theorem look_there {w : World} {m n : Nat} {D : DataW Unit} {T : List (List UInt8)} {s : List UInt8} {i : Nat} (hm : w.ownsMap Tryz.prog 9 (plainElem Tryz.prog 3) m n D) (ht : Tab T D) (hi : T[i]? = some s) (hs : s.length ≤ 65536) :
    (Instr.lookup 54 (.map (some m)) (.string ⟨s.toArray⟩) true).run Tryz.prog w = .ok (.tuple #[.int .i64 i, .bool true]) w := by
  have hkey := WideMaps.keyOf_string_mk (s := ⟨s.toArray⟩) Tryz.underlying9 (by show s.toArray.size ≤ maxLen; unfold maxLen; simp; omega)
  obtain ⟨v, ps, hrun, hv⟩ := hm.look_ok keyLaw Tryz.underlying54 (zeroInt _) (plainElem_int Tryz.underlying3 (by decide)) hkey
  obtain ⟨h1, h2⟩ := ht.2.2 i s hi
  obtain ⟨c, rfl, hc, _⟩ := plainElem_int_inv Tryz.underlying3 hv
  have e : (Lit.string (⟨s.toArray⟩ : ByteArray).data.toList) = .string s := rfl
  rw [e] at hrun hc
  rw [h1] at hrun
  rw [h2] at hc
  simp only [Prod.mk.injEq, DataW.lit.injEq, Lit.int.injEq, true_and] at hc
  rw [hrun, hc.1]
theorem look_none {w : World} {m n : Nat} {D : DataW Unit} {T : List (List UInt8)} {s : List UInt8} (hm : w.ownsMap Tryz.prog 9 (plainElem Tryz.prog 3) m n D) (ht : Tab T D) (hi : s ∉ T) (hs : s.length ≤ 65536) :
    (Instr.lookup 54 (.map (some m)) (.string ⟨s.toArray⟩) true).run Tryz.prog w = .ok (.tuple #[.int .i64 0, .bool false]) w := by
  have hkey := WideMaps.keyOf_string_mk (s := ⟨s.toArray⟩) Tryz.underlying9 (by show s.toArray.size ≤ maxLen; unfold maxLen; simp; omega)
  obtain ⟨v, ps, hrun, hv⟩ := hm.look_ok keyLaw Tryz.underlying54 (zeroInt _) (plainElem_int Tryz.underlying3 (by decide)) hkey
  have h1 := ht.2.1 s hi
  obtain ⟨c, rfl, hc, _⟩ := plainElem_int_inv Tryz.underlying3 hv
  have e : (Lit.string (⟨s.toArray⟩ : ByteArray).data.toList) = .string s := rfl
  rw [e] at hrun hc
  rw [Maps.atKey_of_not_has h1] at hc
  rw [h1] at hrun
  simp only [Prod.mk.injEq, DataW.lit.injEq, Lit.int.injEq, true_and] at hc
  rw [hrun, hc.1]

/-- too long -/
theorem bDigest_long (w : World) (p : Nat) (O A : Nat → Prop) (T : List (List UInt8)) (v : Value) (s : List UInt8) (h : BookSt w p O T) (hv : BytesIn w A v s) (hs : 65536 < s.length) (hs2 : s.length ≤ maxLen) :
    Calls Tryz.prog 73 #[.pointer (some ⟨p, 0, none⟩), v] w fun e w' => ∃ er, e = .returned (.tuple #[.int .i64 (-1), er]) ∧ One w' (fun k => k = w.heap.size) er 2 ⟨#[98, 111, 111, 107]⟩ T.length ∧ Below w.heap.size w w' := by
  have H := hideIt h
  obtain ⟨a, cap, rfl, _⟩ := hv.form
  unfold maxLen at hs2
  have h1 : (65536 : Int) < (s.length : Int) := by omega
  clear h hv
  go_enter Tryz.func73, Tryz.ntmps73
  go_wp2_with fail
  refine (bwrong_any w p O T 2 (by decide) H.out).mono ?_
  rintro e w1 ⟨er, rfl, ho, hb⟩
  have HO := hideIt ho
  have HB := hideIt hb
  obtain ⟨ty, y, rfl⟩ := ho.iface
  clear ho hb
  go_wp2
  go_ret2
  exact ⟨_, rfl, HO.out, HB.out⟩

set_option maxRecDepth 100000 in
set_option maxHeartbeats 8000000 in
/-- it is there -/
theorem bDigest_there (w : World) (p : Nat) (O A : Nat → Prop) (T : List (List UInt8)) (v : Value) (s : List UInt8) (i : Nat) (h : BookSt w p O T) (hv : BytesIn w A v s) (hi : T[i]? = some s) :
    Calls Tryz.prog 73 #[.pointer (some ⟨p, 0, none⟩), v] w fun e w' => e = .returned (.tuple #[.int .i64 i, .nilIface]) ∧ Below w.heap.size w w' := by
  obtain ⟨vr, m, D, c0, c1, f0, hr, hm, ht, _, _, hsh⟩ := h
  have hs := hsh s (List.mem_of_getElem? hi)
  have hst := fun n => BytesIn.str (RowIn.kept hv (Kept.of_all (below_drewN w n)))
  have hlk := fun n => look_there (w := w.drewN n) (s := s) (i := i) (by obtain ⟨es, clock, hb, F⟩ := hm; exact ⟨es, clock, hb, F⟩) ht hi hs
  obtain ⟨a, cap, rfl, _⟩ := hv.form
  have h1 : ¬ (65536 : Int) < (s.length : Int) := by omega
  clear hv hm ht hr hsh hi f0 c0
  go_enter Tryz.func73, Tryz.ntmps73
  go_wp2
  go_quiet (fail)
  have HB := hideIt (below_drewN w nq)
  generalize w.drewN nq = w2 at HB ⊢
  clear hst hlk
  go_wp2
  go_ret2
  exact ⟨rfl, HB.out⟩

set_option maxRecDepth 100000 in
set_option maxHeartbeats 8000000 in
/-- it is not there, and there is no room -/
theorem bDigest_full (w : World) (p : Nat) (O A : Nat → Prop) (T : List (List UInt8)) (v : Value) (s : List UInt8) (h : BookSt w p O T) (hv : BytesIn w A v s) (hi : s ∉ T) (hs : s.length ≤ 65536) (hl : T.length = 65536) :
    Calls Tryz.prog 73 #[.pointer (some ⟨p, 0, none⟩), v] w fun e w' => ∃ er, e = .returned (.tuple #[.int .i64 (-1), er]) ∧ One w' (fun k => w.heap.size ≤ k) er 2 ⟨#[98, 111, 111, 107]⟩ T.length ∧ Below w.heap.size w w' := by
  have H := hideIt h
  obtain ⟨vr, m, D, c0, c1, f0, hr, hm, ht, _, _, hsh⟩ := h
  have hst := fun n => BytesIn.str (RowIn.kept hv (Kept.of_all (below_drewN w n)))
  have hlk := fun n => look_none (w := w.drewN n) (s := s) (by obtain ⟨es, clock, hb, F⟩ := hm; exact ⟨es, clock, hb, F⟩) ht hi hs
  obtain ⟨a, cap, rfl, _⟩ := hv.form
  have h1 : ¬ (65536 : Int) < (s.length : Int) := by omega
  have HT := hideIt hl
  clear hv hm ht hr hsh hi f0 c0 hl
  go_enter Tryz.func73, Tryz.ntmps73
  go_wp2
  go_quiet (fail)
  have HB := hideIt (below_drewN w nq)
  have HS := hideIt (H.out.kept (Kept.of_all (below_drewN w nq)))
  generalize w.drewN nq = w2 at HB HS ⊢
  clear hst hlk c1
  go_wp2_with fail
  refine (bMany_any w2 p O T HS.out).mono ?_
  rintro e w3 ⟨rfl, rfl⟩
  have h2 : (65536 : Int) ≤ (T.length : Int) := by have := HT.out; omega
  go_wp2_with fail
  refine (bwrong_any w3 p O T 2 (by decide) HS.out).mono ?_
  rintro e w4 ⟨er, rfl, ho, hb⟩
  have HO := hideIt ho
  have HB4 := hideIt hb
  obtain ⟨ty, y, rfl⟩ := ho.iface
  clear ho hb
  go_wp2
  go_ret2
  have hsz := HB.out.size
  exact ⟨_, rfl, HO.out.mono (fun k e _ => by omega), HB.out.trans (HB4.out.mono hsz)⟩

set_option maxRecDepth 100000 in
set_option maxHeartbeats 8000000 in
/-- it comes in -/
theorem bDigest_new (w : World) (p : Nat) (O A : Nat → Prop) (T : List (List UInt8)) (v : Value) (s : List UInt8) (h : BookSt w p O T) (hv : BytesIn w A v s) (hi : s ∉ T) (hs : s.length ≤ 65536) (hl : T.length < 65536) :
    Calls Tryz.prog 73 #[.pointer (some ⟨p, 0, none⟩), v] w fun e w' => e = .returned (.tuple #[.int .i64 T.length, .nilIface]) ∧ ∃ O', BookSt w' p O' (T ++ [s]) ∧ Turn O w w' ∧ ∀ k, O' k → O k ∨ w.heap.size ≤ k := by
  have H := hideIt h
  obtain ⟨vr, m, D, c0, c1, f0, hr, hm, ht, _, _, hsh⟩ := h
  have hst := fun n => BytesIn.str (RowIn.kept hv (Kept.of_all (below_drewN w n)))
  have hlk := fun n => look_none (w := w.drewN n) (s := s) (by obtain ⟨es, clock, hb, F⟩ := hm; exact ⟨es, clock, hb, F⟩) ht hi hs
  have HV := hideIt hv
  obtain ⟨a, cap, rfl, _⟩ := hv.form
  have h1 : ¬ (65536 : Int) < (s.length : Int) := by omega
  have h2 : ¬ (65536 : Int) ≤ (T.length : Int) := by omega
  have HN := hideIt hi
  have HL := hideIt (And.intro hl hs)
  clear hv hm ht hr hsh hi f0 c0 hl hs
  go_enter Tryz.func73, Tryz.ntmps73
  go_wp2
  go_quiet (fail)
  have HB := hideIt (below_drewN w nq)
  have HS := hideIt (H.out.kept (Kept.of_all (below_drewN w nq)))
  have hs2 := BytesIn.str (RowIn.kept HV.out (Kept.of_all (below_drewN w nq)))
  generalize w.drewN nq = w2 at HB HS hs2 ⊢
  clear hst hlk c1
  go_wp2_with fail
  refine (bMany_any w2 p O T HS.out).mono ?_
  rintro e w3 ⟨rfl, rfl⟩
  obtain ⟨N, hN, h3⟩ : ∃ N : Int, (T.length : Int) = N ∧ ¬ 65536 ≤ N := ⟨_, rfl, by omega⟩
  rw [hN]
  clear h1 h2 hN
  go_wp2_with fail
  refine (badd_any w3 p O T s HS.out HN.out HL.out.1 HL.out.2).mono ?_
  rintro e w4 ⟨rfl, O', h3, h4, h5⟩
  have HE := hideIt (And.intro h3 (And.intro h4 h5))
  clear h3 h4 h5
  go_wp2
  go_ret2
  obtain ⟨h3, h4, h5⟩ := HE.out
  have hsz := HB.out.size
  exact ⟨rfl, O', h3, (Turn.of_below HB.out).trans h4 (fun k hk => Or.inl hk), fun k hk => (h5 k hk).imp id (fun h => by omega)⟩

/-- a slice of bytes whose cells may be written -/
def Open (w : World) (v : Value) (n : Nat) : Prop := ∃ b cap, v = .slice (some ⟨b, 0, none⟩) n cap ∧ n ≤ cap ∧ ∀ j, j < n → w.frozen? ⟨b, j, none⟩ = false

end Go.Proofs.YtmhbfplaglipnaaGreatDoor
